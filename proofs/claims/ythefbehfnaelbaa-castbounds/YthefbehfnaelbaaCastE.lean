/- The law CastBounds: numbers that are all alike, and its walk. -/
import Derived.Test.YthefbehfnaelbaaCastB
namespace Go.Proofs.Ythefbehfnaelbaa.W
open Go.RowKit

theorem same_beh {l : List Int} {c s d : Int} (hs : ws l.length 0 l = s) (hd : (l.length : Int) * ((l.length : Int) - 1) = d) (d0 : 0 < d) (c0 : 0 ≤ c) (c1 : c ≤ 1099511627776) (h : s * 2 = c * d) : behI l = c := by
  have s0 : 0 ≤ c * d := Int.mul_nonneg c0 (by omega)
  rw [beh_form s d hs hd d0 (by omega), h, Int.mul_ediv_cancel _ (by omega), clip_in c0 c1]
theorem same_next (x : Int) (m : Nat) (h1 : 1 ≤ m) (h8 : m ≤ 8) : nextI (List.replicate m x) = clip x := by
  obtain ⟨c0, c1⟩ := clip_range x
  have h : m = 1 ∨ m = 2 ∨ m = 3 ∨ m = 4 ∨ m = 5 ∨ m = 6 ∨ m = 7 ∨ m = 8 := by omega
  rcases h with rfl | rfl | rfl | rfl | rfl | rfl | rfl | rfl
  · rfl
  · show behI [x, x] = clip x
    generalize hc : clip x = c at *
    refine same_beh (d := 2) rfl rfl (by omega) c0 c1 ?_
    simp only [ws, hc, List.length_cons, List.length_nil]
    omega
  · show behI [x, x, x] = clip x
    generalize hc : clip x = c at *
    refine same_beh (d := 6) rfl rfl (by omega) c0 c1 ?_
    simp only [ws, hc, List.length_cons, List.length_nil]
    omega
  · show behI [x, x, x, x] = clip x
    generalize hc : clip x = c at *
    refine same_beh (d := 12) rfl rfl (by omega) c0 c1 ?_
    simp only [ws, hc, List.length_cons, List.length_nil]
    omega
  · show behI [x, x, x, x, x] = clip x
    generalize hc : clip x = c at *
    refine same_beh (d := 20) rfl rfl (by omega) c0 c1 ?_
    simp only [ws, hc, List.length_cons, List.length_nil]
    omega
  · show behI [x, x, x, x, x, x] = clip x
    generalize hc : clip x = c at *
    refine same_beh (d := 30) rfl rfl (by omega) c0 c1 ?_
    simp only [ws, hc, List.length_cons, List.length_nil]
    omega
  · show behI [x, x, x, x, x, x, x] = clip x
    generalize hc : clip x = c at *
    refine same_beh (d := 42) rfl rfl (by omega) c0 c1 ?_
    simp only [ws, hc, List.length_cons, List.length_nil]
    omega
  · show behI [x, x, x, x, x, x, x, x] = clip x
    generalize hc : clip x = c at *
    refine same_beh (d := 56) rfl rfl (by omega) c0 c1 ?_
    simp only [ws, hc, List.length_cons, List.length_nil]
    omega

set_option maxRecDepth 100000 in
set_option maxHeartbeats 3200000 in
theorem bounds_law (A0 A1 : Option Addr) (k0 k1 c0 c1 : Nat) (xs ys : List Int) (x n : Int) (w : World) (hk0 : xs.length = k0) (hc0 : k0 ≤ c0) (hm0 : c0 ≤ maxLen) (hA0 : Lies w w.heap.size A0 (ints xs))
    (hk1 : ys.length = k1) (hA1 : Lies w w.heap.size A1 (ints ys)) :
    Calls Try.prog 5 #[.slice A0 k0 c0, .slice A1 k1 c1, .int .i64 x, .int .i64 n] w fun e w' => e = .returned (.bool true) ∧ Below w.heap.size w w' := by
  simp only [maxLen] at hm0
  have HK0 := Lib.hid hk0.symm
  have HK1 := Lib.hid hk1.symm
  obtain ⟨i0, hi, hz0, hz1, hz2⟩ := info_parts infoI
  obtain ⟨q, hq, q8⟩ := and_nat n 7 3 8 (by decide) (by decide) (by decide)
  clear hk0 hk1
  by_cases h0 : 30 < k0
  · go_enter Try.func5, Try.ntmps5
    go_wp2_with fail
    refine (head_true _).mono ?_
    rintro e w1 ⟨rfl, hb1⟩
    go_wp2_with fail
    go_ret
    exact ⟨rfl, hb1⟩
  by_cases h1 : 30 < k1
  · go_enter Try.func5, Try.ntmps5
    go_wp2_with fail
    refine (head_true _).mono ?_
    rintro e w1 ⟨rfl, hb1⟩
    go_wp2_with fail
    go_ret
    exact ⟨rfl, hb1⟩
  obtain ⟨v, hv⟩ : ∃ v, nextI xs = v := ⟨_, rfl⟩
  have HV := Lib.hid hv
  have hv0 := next_range xs
  rw [hv] at hv0
  obtain ⟨v0, v1⟩ := hv0
  clear hv

  by_cases h8 : 8 ≤ k0
  · have E2 := Lib.hid (show nextI (ys ++ xs) = v by unfold nextI; rw [last8_app (by rw [← HK0.out]; exact h8)]; exact HV.out)
    have h8i : (8 : Int) ≤ (k0 : Int) := by omega
    go_enter Try.func5, Try.ntmps5
    go_wp2_with fail
    refine (head_true _).mono ?_
    rintro e w1 ⟨rfl, hb1⟩
    have hL0 := hA0.below hb1 (Nat.le_refl _)
    have hL1 := hA1.below hb1 (Nat.le_refl _)
    clear hA0 hA1
    go_wp2_with fail
    refine (next_any _ _ k0 c0 xs _ HK0.out hc0 (by omega) hL0).mono ?_
    rintro e w2 ⟨rfl, q2, hw2⟩
    rw [HV.out]
    have hb2 := below_next hb1 hw2
    have hM0 := lies_next hL0 hw2
    have hM1 := lies_next hL1 hw2
    have hs2 := hb2.size
    clear hL0 hL1 hw2 hb1
    have hM0' : ∀ w3 g, w.heap.size ≤ g → (w2.alloc (.cells #[] 2)).grownBy w3 (some g) → Lies w3 w.heap.size A0 (ints xs) := by
      intro w3 g hg h
      refine hM0.keep fun b hb => ?_
      rw [h.block b (by simp; omega) (by simp; omega), Below.heap_alloc _ _ _ (by omega)]
    clear hM0
    go_wp2_with (first
      | (at_builtin; refine wpList_unguard (by rfl) ?_; refine wpList_appN rfl (.tmp 34) (.tmp 35) 22 rfl w.heap.size 2 i0 (.int .i64 0) 8 Try.underlying22 hi hz0 hz1 hz2 rfl w2.heap.size 0 0 [] rfl (own_empty hs2) A1 k1 c1 w.heap.size (ints ys) rfl (by simp [HK1.out]) (hM1.keep fun b hb => Below.heap_alloc _ _ _ (by omega)) (ones_i64 _) (by omega) (by omega) (by simp; omega) ?_; intro g cap w3 own3 hg3 hat3 hlt3; simp only [Nat.zero_add, List.nil_append] at own3 ⊢; have hb3 := (hb2.alloc hs2 (.cells #[] 2)).grown hg3 (by simp; omega) (fun j hj => by injection hj with hj; omega); have hgb : w.heap.size ≤ g := by rcases hat3 with h | h <;> ((try simp at h); omega))
      | (at_builtin; refine wpList_unguard (by rfl) ?_; refine wpList_appN rfl (.tmp 36) (.tmp 37) 22 rfl w.heap.size 2 i0 (.int .i64 0) 8 Try.underlying22 hi hz0 hz1 hz2 rfl g k1 cap (ints ys) rfl own3 A0 k0 c0 w.heap.size (ints xs) rfl (by simp [HK0.out]) (hM0' _ _ hs2 hg3) (ones_i64 _) (by omega) (by omega) hb3.size ?_; intro g5 cap5 w5 own5 hg5 hat5 hlt5))
    have hb5 := hb3.grown hg5 hb3.size (fun j hj => by injection hj with hj; omega)
    have own6 : w5.ownsRow w.heap.size 2 1 (.slice (some ⟨g5, 0, none⟩) (k1 + k0) cap5) (k1 + k0) (ints (ys ++ xs)) := by simpa using own5
    refine (next_any _ _ (k1 + k0) cap5 (ys ++ xs) _ (by simp [← HK0.out, ← HK1.out]) (own_cap own6).1 (own_max own6) (lies_own own6)).mono ?_
    rintro e w6 ⟨rfl, q6, hw6⟩
    rw [E2.out]
    have hb6 := below_next hb5 hw6
    clear hw6 hb5 own6 own5 hb3 hg3 hg5 own3 hat3 hat5 hlt3 hlt5 hM1 hM0' hb2 hs2
    go_wp2_with fail
    go_loopg [10, 11] (q + 1) (fun gk vs vi wr => ∃ i g cap : Nat, vi = .int .i64 (i : Int) ∧ vs = .slice (some ⟨g, 0, none⟩) i cap ∧ i + gk = q + 1 ∧ wr.ownsRow w.heap.size 2 1 (.slice (some ⟨g, 0, none⟩) i cap) i (ints (List.replicate i x)) ∧ Below w.heap.size w wr)
    case atStart => exact ⟨0, w6.heap.size, 0, rfl, rfl, by omega, own_empty hb6.size, hb6.alloc hb6.size _⟩
    case round =>
      obtain ⟨i, g, cap, rfl, rfl, hik, own, hbz⟩ := hrel
      have HIK := Lib.hid hik
      have hsz := hbz.size
      by_cases hlt : i < q + 1
      · have hltI : (i : Int) < 1 + (q : Int) := by omega
        clear hik
        go_wp2_with (at_builtin; refine wpList_app1 rfl (.tmp 51) (.tmp 53) 22 rfl w.heap.size 2 i0 (.int .i64 0) 8 Try.underlying22 hi hz0 hz1 hz2 rfl (.slice (some ⟨g, 0, none⟩) i cap) i (ints (List.replicate i x)) rfl own (.int .i64 x) _ rfl _ rfl rfl (by omega) (by omega) hsz ?_; intro g' cap' w' own' hg' _ _)
        have hb' := hbz.grown hg' hsz (fun j hj => by simp [Value.ownBlock] at hj; have := (own_cap own).2.2; omega)
        have own2 : w'.ownsRow w.heap.size 2 1 (.slice (some ⟨g', 0, none⟩) (i + 1) cap') (i + 1) (ints (List.replicate (i + 1) x)) := by
          rw [List.replicate_succ']; simpa using own'
        clear own hbz hg' own' hsz
        go_roundg (gk - 1)
        case measure => have := HIK.out; omega
        case rel => exact ⟨i + 1, g', cap', by go_num, rfl, by have := HIK.out; omega, own2, hb'⟩
      · obtain rfl : i = q + 1 := by omega
        have E := Lib.hid (same_next x (q + 1) (by omega) (by omega))
        clear hik HIK
        have hnl : decide (((q + 1 : Nat) : Int) < 1 + (q : Int)) = false := by simp; omega
        go_wp2_with fail
        refine (next_any _ _ (q + 1) cap (List.replicate (q + 1) x) _ (by simp) (own_cap own).1 (own_max own) (lies_own own)).mono ?_
        rintro e w3 ⟨rfl, q3, hw3⟩
        rw [E.out]
        have hb3 := below_next hbz hw3
        clear hw3 hbz own
        go_wp2_with fail
        refine (lawCut_any _ _).mono ?_
        rintro e w' ⟨rfl, rfl⟩
        go_wp2_with fail
        go_ret
        exact ⟨rfl, hb3⟩

  · have h8i : decide ((8 : Int) ≤ (k0 : Int)) = false := by simp; omega
    go_enter Try.func5, Try.ntmps5
    go_wp2_with fail
    refine (head_true _).mono ?_
    rintro e w1 ⟨rfl, hb1⟩
    have hL0 := hA0.below hb1 (Nat.le_refl _)
    clear hA0 hA1
    go_wp2_with fail
    refine (next_any _ _ k0 c0 xs _ HK0.out hc0 (by omega) hL0).mono ?_
    rintro e w2 ⟨rfl, q2, hw2⟩
    rw [HV.out]
    have hb2 := below_next hb1 hw2
    clear hL0 hw2 hb1
    go_wp2_with fail
    go_loopg [10, 11] (q + 1) (fun gk vs vi wr => ∃ i g cap : Nat, vi = .int .i64 (i : Int) ∧ vs = .slice (some ⟨g, 0, none⟩) i cap ∧ i + gk = q + 1 ∧ wr.ownsRow w.heap.size 2 1 (.slice (some ⟨g, 0, none⟩) i cap) i (ints (List.replicate i x)) ∧ Below w.heap.size w wr)
    case atStart => exact ⟨0, w2.heap.size, 0, rfl, rfl, by omega, own_empty hb2.size, hb2.alloc hb2.size _⟩
    case round =>
      obtain ⟨i, g, cap, rfl, rfl, hik, own, hbz⟩ := hrel
      have HIK := Lib.hid hik
      have hsz := hbz.size
      by_cases hlt : i < q + 1
      · have hltI : (i : Int) < 1 + (q : Int) := by omega
        clear hik
        go_wp2_with (at_builtin; refine wpList_app1 rfl (.tmp 51) (.tmp 53) 22 rfl w.heap.size 2 i0 (.int .i64 0) 8 Try.underlying22 hi hz0 hz1 hz2 rfl (.slice (some ⟨g, 0, none⟩) i cap) i (ints (List.replicate i x)) rfl own (.int .i64 x) _ rfl _ rfl rfl (by omega) (by omega) hsz ?_; intro g' cap' w' own' hg' _ _)
        have hb' := hbz.grown hg' hsz (fun j hj => by simp [Value.ownBlock] at hj; have := (own_cap own).2.2; omega)
        have own2 : w'.ownsRow w.heap.size 2 1 (.slice (some ⟨g', 0, none⟩) (i + 1) cap') (i + 1) (ints (List.replicate (i + 1) x)) := by
          rw [List.replicate_succ']; simpa using own'
        clear own hbz hg' own' hsz
        go_roundg (gk - 1)
        case measure => have := HIK.out; omega
        case rel => exact ⟨i + 1, g', cap', by go_num, rfl, by have := HIK.out; omega, own2, hb'⟩
      · obtain rfl : i = q + 1 := by omega
        have E := Lib.hid (same_next x (q + 1) (by omega) (by omega))
        clear hik HIK
        have hnl : decide (((q + 1 : Nat) : Int) < 1 + (q : Int)) = false := by simp; omega
        go_wp2_with fail
        refine (next_any _ _ (q + 1) cap (List.replicate (q + 1) x) _ (by simp) (own_cap own).1 (own_max own) (lies_own own)).mono ?_
        rintro e w3 ⟨rfl, q3, hw3⟩
        rw [E.out]
        have hb3 := below_next hbz hw3
        clear hw3 hbz own
        go_wp2_with fail
        refine (lawCut_any _ _).mono ?_
        rintro e w' ⟨rfl, rfl⟩
        go_wp2_with fail
        go_ret
        exact ⟨rfl, hb3⟩

end Go.Proofs.Ythefbehfnaelbaa.W