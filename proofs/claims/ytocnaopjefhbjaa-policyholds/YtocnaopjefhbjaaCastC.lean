/- The law's own Next, and the law CastNexts. -/
import Derived.Test.YtocnaopjefhbjaaCastB
namespace Go.Proofs.Ytocnaopjefhbjaa.W
open Go.RowKit

theorem weigh2 (x w : Int) (h0 : -21 ≤ w) (h1 : w ≤ 42) : -46179488366592 ≤ clip x * w ∧ clip x * w ≤ 46179488366592 := by
  obtain ⟨c0, c1⟩ := clip_range x
  generalize clip x = c at *
  have a1 : c * w ≤ c * 42 := Int.mul_le_mul_of_nonneg_left h1 c0
  have a2 : c * (-21) ≤ c * w := Int.mul_le_mul_of_nonneg_left h0 c0
  omega

set_option maxRecDepth 100000 in
set_option maxHeartbeats 1600000 in
theorem lawNext_few (A : Option Addr) (B k c : Nat) (xs : List Int) (w : World) (hk : k = xs.length) (hk8 : k ≤ 8) (hA : Lies w B A (ints xs)) :
    Calls Try.prog 19 #[.slice A k c] w fun e w' => e = .returned (.int .i64 (nextI xs)) ∧ ∃ q, w' = w.drewN q := by
  have HK := Lib.hid hk
  clear hk
  by_cases h0 : k = 0
  · have e0 : nextI xs = 0 := by obtain rfl : xs = [] := List.eq_nil_of_length_eq_zero (by rw [← HK.out]; exact h0); rfl
    have E0 := Lib.hid e0
    clear e0
    go_enter Try.func19, Try.ntmps19
    go_wp2_with fail
    go_ret
    exact ⟨ret_int E0.out.symm, 0, rfl⟩
  by_cases h1 : k = 1
  · obtain ⟨x, rfl⟩ : ∃ x, xs = [x] := by
      have h := HK.out
      rw [h1] at h
      match xs, h with
      | [x], _ => exact ⟨x, rfl⟩
    obtain ⟨ad, y, rfl, hb, hx, hcx⟩ := hA.int (i := 0) (by simp)
    obtain rfl : y = x := by simpa using hx.symm
    rw [add_zero] at hcx
    have e0 : nextI [y] = clip y := rfl
    have E0 := Lib.hid e0
    clear e0 hx
    go_enter Try.func19, Try.ntmps19
    go_wp2_with fail
    refine (lawCut_any _ _).mono ?_
    rintro e w' ⟨rfl, rfl⟩
    go_wp2_with fail
    go_ret
    exact ⟨ret_int E0.out.symm, 0, rfl⟩
  have e0 : nextI xs = behI xs := by
    unfold nextI
    rw [last8_small (by rw [← HK.out]; exact hk8)]
    exact nextL_two (by rw [← HK.out]; omega)
  have E0 := Lib.hid e0
  have hb0 : ((k : Int) == 0) = false := by simp; omega
  have hb1 : ((k : Int) == 1) = false := by simp; omega
  have h2 : 2 ≤ k := by omega
  clear e0 h0 h1
  go_enter Try.func19, Try.ntmps19
  go_wp2_with fail
  go_loopg [4, 27] k (fun gk vs vi wr => ∃ i : Nat, ∃ s : Int, vi = .int .i64 (i : Int) ∧ vs = .int .i64 s ∧ i + gk = k ∧ s = 2 * ws k 0 (xs.take i) ∧ -46179488366592 * (i : Int) ≤ s ∧ s ≤ 46179488366592 * (i : Int) ∧ ∃ q, wr = w.drewN q)
  case atStart => exact ⟨0, 0, rfl, rfl, by omega, rfl, by omega, by omega, 0, rfl⟩
  case round =>
    obtain ⟨i, s, rfl, rfl, hik, hs, hs0, hs1, q, hq⟩ := hrel
    have HQ := Lib.hid hq
    have HIK := Lib.hid hik
    have HS := Lib.hid hs
    by_cases hi : i < k
    · obtain ⟨ad, x, rfl, hblk, hx, hcx⟩ := hA.int (show i < xs.length by rw [← HK.out]; exact hi)
      have hcx' : wr.cell? (ad.add i) = some (.int .i64 x) := by rw [hq]; exact hcx
      have HX := Lib.hid hx
      clear hik hcx hx hq hs
      have hp := weigh2 x (6 * (i : Int) - 2 * (k : Int) + 2) (by omega) (by omega)
      obtain ⟨cx, hcl⟩ : ∃ cx, clip x = cx := ⟨_, rfl⟩
      have HC := Lib.hid hcl
      rw [hcl] at hp
      obtain ⟨hp0, hp1⟩ := hp
      clear hcl
      go_wp2_with fail
      refine (lawCut_any _ _).mono ?_
      rintro e w' ⟨rfl, rfl⟩
      rw [HC.out]
      go_wp2_with fail
      go_roundg (gk - 1)
      case measure => have := HIK.out; omega
      case rel =>
        refine ⟨i + 1, s + cx * (6 * (i : Int) - 2 * (k : Int) + 2), by go_num, rfl, by have := HIK.out; omega, ?_, by omega, by omega, q, HQ.out⟩
        rw [take_snoc HX.out, ws_snoc, HS.out, HC.out]
        have hl : (xs.take i).length = i := by simp; rw [← HK.out]; omega
        rw [hl, Int.zero_add, show 6 * (i : Int) - 2 * (k : Int) + 2 = 2 * (3 * (i : Int) - ((k : Int) - 1)) by omega, Int.mul_left_comm]
        omega
    · obtain rfl : i = k := by omega
      rw [List.take_of_length_le (by rw [HK.out]; exact Nat.le_refl _)] at hs HS
      have hd : 2 ≤ (i : Int) * ((i : Int) - 1) ∧ (i : Int) * ((i : Int) - 1) ≤ 56 := by
        have h7 : i = 2 ∨ i = 3 ∨ i = 4 ∨ i = 5 ∨ i = 6 ∨ i = 7 ∨ i = 8 := by omega
        rcases h7 with h | h | h | h | h | h | h <;> rw [h] <;> omega
      obtain ⟨hd0, hd1⟩ := hd
      clear hik HIK hq hs
      by_cases hneg : s < 0
      · go_wp2_with fail
        go_ret
        exact ⟨ret_int (by rw [E0.out, beh_low (ws i 0 xs) (by rw [← HK.out]) (by have := HS.out; omega)]), q, HQ.out⟩
      · go_wp2_with fail
        refine (lawCut_any _ _).mono ?_
        rintro e w' ⟨rfl, rfl⟩
        go_wp2_with fail
        go_ret
        exact ⟨ret_int (by rw [E0.out, beh_form (ws i 0 xs) ((i : Int) * ((i : Int) - 1)) (by rw [← HK.out]) (by rw [← HK.out]) (by omega) (by have := HS.out; omega), HS.out, Int.mul_comm 2]), q, HQ.out⟩

theorem eight_of {k m : Nat} (h : k - (k - 8) = m) (h0 : 8 < k) : 2 ≤ m ∧ m ≤ 8 ∧ ((m : Int) == 0) = false ∧ ((m : Int) == 1) = false := two_up h (by omega) (by omega)

set_option maxRecDepth 100000 in
set_option maxHeartbeats 1600000 in
theorem lawNext_many (A : Option Addr) (B k c : Nat) (xs : List Int) (w : World) (hk : k = xs.length) (h8 : 8 < k) (hc : k ≤ c) (hm : c ≤ 9223372036854775807) (hA : Lies w B A (ints xs)) :
    Calls Try.prog 19 #[.slice A k c] w fun e w' => e = .returned (.int .i64 (nextI xs)) ∧ ∃ q, w' = w.drewN q := by
  obtain ⟨inf, hinf⟩ := Option.isSome_iff_exists.1 (show (Try.prog.info? 2).isSome = true by kernel_rfl)
  have hs : inf.size = 1 := by have h := infoI; rw [hinf] at h; simp at h; exact h.2.1
  have hj : (k : Int) - 8 = ((k - 8 : Nat) : Int) := by omega
  have HJ := Lib.hid hj
  have e0 : nextI xs = behI (last8 xs) := nextL_two (by rw [last8_len, ← hk]; omega)
  obtain ⟨ys, hys⟩ : ∃ ys, last8 xs = ys := ⟨_, rfl⟩
  rw [hys] at e0
  have HY := Lib.hid hys
  have E0 := Lib.hid e0
  have HK := Lib.hid hk
  clear hj e0 hys hk
  go_enter Try.func19, Try.ntmps19
  go_wp2_with (with_reducible refine wpList_from_to rfl (.tmp 10) (.tmp 13) 22 rfl 2 inf Try.underlying22 hinf hs A k c (k - 8) .i64 ((k : Int) - 8) rfl rfl HJ.out (by omega) hc ?_; intro A' HA'; have hL := lies_last hA HK.out HA'.out; rw [HY.out] at hL; obtain ⟨m, hm0⟩ : ∃ m, k - (k - 8) = m := ⟨_, rfl⟩; have HN := Lib.hid (last8_len' HK.out hm0); rw [HY.out] at HN; obtain ⟨h2, hm8, hb0, hb1⟩ := eight_of hm0 h8; rw [hm0]; clear hm0)
  clear hA HK HY HJ HA' h8 hc hm hs hinf
  have HK : Hid (m = ys.length) := HN
  go_loopg [4, 27] m (fun gk vs vi wr => ∃ i : Nat, ∃ s : Int, vi = .int .i64 (i : Int) ∧ vs = .int .i64 s ∧ i + gk = m ∧ s = 2 * ws m 0 (ys.take i) ∧ -46179488366592 * (i : Int) ≤ s ∧ s ≤ 46179488366592 * (i : Int) ∧ ∃ q, wr = w.drewN q)
  case atStart => exact ⟨0, 0, rfl, rfl, by omega, rfl, by omega, by omega, 0, rfl⟩
  case round =>
    obtain ⟨i, s, rfl, rfl, hik, hs, hs0, hs1, q, hq⟩ := hrel
    have HQ := Lib.hid hq
    have HIK := Lib.hid hik
    have HS := Lib.hid hs
    by_cases hi : i < m
    · obtain ⟨ad, x, rfl, hblk, hx, hcx⟩ := hL.int (show i < ys.length by rw [← HK.out]; exact hi)
      have hcx' : wr.cell? (ad.add i) = some (.int .i64 x) := by rw [hq]; exact hcx
      have HX := Lib.hid hx
      clear hik hcx hx hq hs
      have hp := weigh2 x (6 * (i : Int) - 2 * (m : Int) + 2) (by omega) (by omega)
      obtain ⟨cx, hcl⟩ : ∃ cx, clip x = cx := ⟨_, rfl⟩
      have HC := Lib.hid hcl
      rw [hcl] at hp
      obtain ⟨hp0, hp1⟩ := hp
      clear hcl
      go_wp2_with fail
      refine (lawCut_any _ _).mono ?_
      rintro e w' ⟨rfl, rfl⟩
      rw [HC.out]
      go_wp2_with fail
      go_roundg (gk - 1)
      case measure => have := HIK.out; omega
      case rel =>
        refine ⟨i + 1, s + cx * (6 * (i : Int) - 2 * (m : Int) + 2), by go_num, rfl, by have := HIK.out; omega, ?_, by omega, by omega, q, HQ.out⟩
        rw [take_snoc HX.out, ws_snoc, HS.out, HC.out]
        have hl : (ys.take i).length = i := by simp; rw [← HK.out]; omega
        rw [hl, Int.zero_add, show 6 * (i : Int) - 2 * (m : Int) + 2 = 2 * (3 * (i : Int) - ((m : Int) - 1)) by omega, Int.mul_left_comm]
        omega
    · obtain rfl : i = m := by omega
      rw [List.take_of_length_le (by rw [HK.out]; exact Nat.le_refl _)] at hs HS
      have hd : 2 ≤ (i : Int) * ((i : Int) - 1) ∧ (i : Int) * ((i : Int) - 1) ≤ 56 := by
        have h7 : i = 2 ∨ i = 3 ∨ i = 4 ∨ i = 5 ∨ i = 6 ∨ i = 7 ∨ i = 8 := by omega
        rcases h7 with h | h | h | h | h | h | h <;> rw [h] <;> omega
      obtain ⟨hd0, hd1⟩ := hd
      clear hik HIK hq hs
      by_cases hneg : s < 0
      · go_wp2_with fail
        go_ret
        exact ⟨ret_int (by rw [E0.out, beh_low (ws i 0 ys) (by rw [← HK.out]) (by have := HS.out; omega)]), q, HQ.out⟩
      · go_wp2_with fail
        refine (lawCut_any _ _).mono ?_
        rintro e w' ⟨rfl, rfl⟩
        go_wp2_with fail
        go_ret
        exact ⟨ret_int (by rw [E0.out, beh_form (ws i 0 ys) ((i : Int) * ((i : Int) - 1)) (by rw [← HK.out]) (by rw [← HK.out]) (by omega) (by have := HS.out; omega), HS.out, Int.mul_comm 2]), q, HQ.out⟩

theorem lawNext_any (A : Option Addr) (B k c : Nat) (xs : List Int) (w : World) (hk : k = xs.length) (hc : k ≤ c) (hm : c ≤ 9223372036854775807) (hA : Lies w B A (ints xs)) :
    Calls Try.prog 19 #[.slice A k c] w fun e w' => e = .returned (.int .i64 (nextI xs)) ∧ ∃ q, w' = w.drewN q := by
  rcases Nat.lt_or_ge 8 k with h | h
  · exact lawNext_many A B k c xs w hk h hc hm hA
  · exact lawNext_few A B k c xs w hk h hA
end Go.Proofs.Ytocnaopjefhbjaa.W
