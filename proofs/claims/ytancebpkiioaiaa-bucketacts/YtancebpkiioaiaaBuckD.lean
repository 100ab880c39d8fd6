/- The law BucketActs: its walk. -/
import Derived.Test.YtancebpkiioaiaaBuckC
namespace Go.Proofs.Ytancebpkiioaiaa.W
open Go.RowKit

theorem row_off {w w' : World} {q b : Nat} {o : Obj} (h : w.heap[q]? = some o) (hg : w.grownBy w' (some b)) (hne : q ≠ b) : w'.heap[q]? = some o := by
  rw [hg.block q (lt_of_row h) (by simpa using hne)]; exact h

set_option maxRecDepth 100000 in
set_option maxHeartbeats 3200000 in
theorem bacts_walk (x0 x1 : Int) (a0 : Option Addr) (k cap : Nat) (Z : Nat → Int) (_hc : k ≤ cap) (w : World) (L : Lies w w.heap.size a0 (zs Z (k * 3))) :
    Calls Try.prog 3 #[.int .i64 x0, .int .i64 x1, .slice a0 k cap] w fun e w' => e = .returned (.bool true) ∧ Below w.heap.size w w' := by
  by_cases hk : 200 < k
  · have hki : decide ((200 : Int) < (k : Int)) = true := by simp; omega
    go_enter Try.func3, Try.ntmps3
    go_wp2_with fail
    refine (head10 _).mono ?_
    rintro e w1 ⟨rfl, b1⟩
    go_wp2_with fail
    go_ret
    exact ⟨rfl, b1⟩
  · have hki : decide ((200 : Int) < (k : Int)) = false := by simp; omega
    go_enter Try.func3, Try.ntmps3
    go_wp2_with fail
    refine (head10 _).mono ?_
    rintro e w1 ⟨rfl, b1⟩
    go_wp2_with fail
    refine (b_new x0 x1 w1).mono ?_
    rintro e w2 ⟨rfl, h2, b2⟩
    obtain ⟨b, hb⟩ : ∃ b, w1.heap.size = b := ⟨_, rfl⟩
    have bb2 := b1.trans (b2.mono b1.size)
    have hlb : w.heap.size ≤ b := by rw [← hb]; exact b1.size
    rw [hb] at h2
    rw [hb]
    clear hb b1 b2
    go_wp2_with fail
    refine (bound_any x0 w2).mono ?_
    rintro e w3 ⟨rfl, rfl⟩
    go_wp2_with fail
    refine (bound_any x1 w2).mono ?_
    rintro e w3 ⟨rfl, rfl⟩
    go_wp2_with fail
    clear hki
    go_loopg [8, 9, 10, 28] k (fun gk v8 v9 v10 vi wr => ∃ (i s r t : Nat), v8 = .int .i64 (s : Int) ∧ v9 = .int .i64 (r : Int) ∧ v10 = .int .i64 (t : Int) ∧ vi = .int .i64 (i : Int) ∧ i + gk = k ∧ Bk wr b s r t ∧ Below w.heap.size w wr)
    case atStart => exact ⟨0, _, _, _, rfl, rfl, rfl, rfl, by omega, h2, bb2⟩
    case round =>
      clear h2 bb2
      obtain ⟨i, s, r, t, rfl, rfl, rfl, rfl, hik, hz, bz⟩ := hrel
      have HIK := Lib.hid hik
      by_cases hi : i < k
      · obtain ⟨ad, hA, hadb, hcell⟩ := (L.below bz (Nat.le_refl _)).num (j := i * 3) (by omega)
        have hii : (i : Int) < (k : Int) := by omega
        have y0 := hcell (i * 3) (by omega)
        have y1 := cell_in (c := 0) (hcell (i * 3 + 1) (by omega))
        have y2 := cell_in (c := 1) (hcell (i * 3 + 2) (by omega))
        rw [Nat.zero_add] at y1
        rw [show (1 : Nat) + 1 = 2 from rfl] at y2
        obtain ⟨z0, hz0⟩ : ∃ z, Z (i * 3) = z := ⟨_, rfl⟩
        obtain ⟨z1, hz1⟩ : ∃ z, Z (i * 3 + 1) = z := ⟨_, rfl⟩
        obtain ⟨z2, hz2⟩ : ∃ z, Z (i * 3 + 2) = z := ⟨_, rfl⟩
        rw [hz0] at y0
        rw [hz1] at y1
        rw [hz2] at y2
        subst hA
        clear hcell hik hz0 hz1 hz2
        obtain ⟨kd, hkd, hkd8⟩ := and_nat z0 7 3 8 (by decide) (by decide) (by decide)
        have hsI : (s : Int) ≤ 1000 := by have := hz.1; omega
        have hrI : (r : Int) ≤ 1000 := by have := hz.2.1; omega
        have htI : (t : Int) ≤ 1000 := by have := hz.1; have := hz.2.2.1; omega
        have hb0 : Below wr.heap.size wr (wr.alloc (.cells #[.int .i64 z0, .int .i64 z1, .int .i64 z2] 28)) := (Below.refl _ _).alloc (Nat.le_refl _) _
        have bx := bz.trans (hb0.mono bz.size)
        have h4 := hz.keep hb0 hz.lt
        have HQ := Lib.hid (heap_alloc_new wr (.cells #[.int .i64 z0, .int .i64 z1, .int .i64 z2] 28))
        have hqb : wr.heap.size ≠ b := by have := hz.lt; omega
        obtain ⟨qa, hqa⟩ : ∃ q, wr.heap.size = q := ⟨_, rfl⟩
        rw [hqa] at HQ hqb
        clear hb0
        rcases (show kd = 4 ∨ kd = 5 ∨ kd = 7 ∨ kd = 6 ∨ kd < 4 by omega) with rfl | rfl | rfl | rfl | hkd4
        · go_wp2_with fail
          clear y0 y1 y2 hkd bz hz
          try rw [hqa]
          clear hqa
          generalize wr.alloc (.cells #[.int .i64 z0, .int .i64 z1, .int .i64 z2] 28) = w4 at h4 bx HQ ⊢
          refine (b_tick b s r t _ h4).mono ?_
          rintro e w5 ⟨rfl, hN, g5⟩
          have bN := below_row bx hlb g5 bx.size
          by_cases hc : s < t + r
          · rw [Nat.min_eq_right (by omega)] at hN
            have hcd : (s : Int) < (t : Int) + (r : Int) := by omega
            go_wp2_with fail
            refine (b_tokens b _ _ _ _ hN).mono ?_
            rintro e w6 ⟨rfl, rfl⟩
            go_wp2_with fail
            go_roundg (gk - 1)
            case measure => have := HIK.out; omega
            case rel => exact ⟨i + 1, _, _, _, rfl, rfl, rfl, by go_num, by have := HIK.out; omega, hN, bN⟩
          · rw [Nat.min_eq_left (by omega)] at hN
            have hcd : decide ((s : Int) < (t : Int) + (r : Int)) = false := by simp; omega
            have htr : ((t + r : Nat) : Int) = (t : Int) + (r : Int) := by omega
            have HTR := Lib.hid htr
            clear hc htr
            go_wp2_with fail
            rw [← HTR.out]
            refine (b_tokens b _ _ _ _ hN).mono ?_
            rintro e w6 ⟨rfl, rfl⟩
            go_wp2_with fail
            go_roundg (gk - 1)
            case measure => have := HIK.out; omega
            case rel => exact ⟨i + 1, _, _, _, rfl, rfl, rfl, by go_num, by have := HIK.out; omega, hN, bN⟩
        · go_wp2_with fail
          clear y0 y1 y2 hkd bz hz
          try rw [hqa]
          clear hqa
          generalize wr.alloc (.cells #[.int .i64 z0, .int .i64 z1, .int .i64 z2] 28) = w4 at h4 bx HQ ⊢
          refine (b_tick b s r t _ h4).mono ?_
          rintro e w5 ⟨rfl, hN, g5⟩
          have bN := below_row bx hlb g5 bx.size
          by_cases hc : s < t + r
          · rw [Nat.min_eq_right (by omega)] at hN
            have hcd : (s : Int) < (t : Int) + (r : Int) := by omega
            go_wp2_with fail
            refine (b_tokens b _ _ _ _ hN).mono ?_
            rintro e w6 ⟨rfl, rfl⟩
            go_wp2_with fail
            go_roundg (gk - 1)
            case measure => have := HIK.out; omega
            case rel => exact ⟨i + 1, _, _, _, rfl, rfl, rfl, by go_num, by have := HIK.out; omega, hN, bN⟩
          · rw [Nat.min_eq_left (by omega)] at hN
            have hcd : decide ((s : Int) < (t : Int) + (r : Int)) = false := by simp; omega
            have htr : ((t + r : Nat) : Int) = (t : Int) + (r : Int) := by omega
            have HTR := Lib.hid htr
            clear hc htr
            go_wp2_with fail
            rw [← HTR.out]
            refine (b_tokens b _ _ _ _ hN).mono ?_
            rintro e w6 ⟨rfl, rfl⟩
            go_wp2_with fail
            go_roundg (gk - 1)
            case measure => have := HIK.out; omega
            case rel => exact ⟨i + 1, _, _, _, rfl, rfl, rfl, by go_num, by have := HIK.out; omega, hN, bN⟩
        · go_wp2_with fail
          clear y0 y1 y2 hkd bz hz
          try rw [hqa]
          clear hqa
          generalize wr.alloc (.cells #[.int .i64 z0, .int .i64 z1, .int .i64 z2] 28) = w4 at h4 bx HQ ⊢
          refine (b_tick b s r t _ h4).mono ?_
          rintro e w5 ⟨rfl, hN, g5⟩
          have bN := below_row bx hlb g5 bx.size
          by_cases hc : s < t + r
          · rw [Nat.min_eq_right (by omega)] at hN
            have hcd : (s : Int) < (t : Int) + (r : Int) := by omega
            go_wp2_with fail
            refine (b_tokens b _ _ _ _ hN).mono ?_
            rintro e w6 ⟨rfl, rfl⟩
            go_wp2_with fail
            go_roundg (gk - 1)
            case measure => have := HIK.out; omega
            case rel => exact ⟨i + 1, _, _, _, rfl, rfl, rfl, by go_num, by have := HIK.out; omega, hN, bN⟩
          · rw [Nat.min_eq_left (by omega)] at hN
            have hcd : decide ((s : Int) < (t : Int) + (r : Int)) = false := by simp; omega
            have htr : ((t + r : Nat) : Int) = (t : Int) + (r : Int) := by omega
            have HTR := Lib.hid htr
            clear hc htr
            go_wp2_with fail
            rw [← HTR.out]
            refine (b_tokens b _ _ _ _ hN).mono ?_
            rintro e w6 ⟨rfl, rfl⟩
            go_wp2_with fail
            go_roundg (gk - 1)
            case measure => have := HIK.out; omega
            case rel => exact ⟨i + 1, _, _, _, rfl, rfl, rfl, by go_num, by have := HIK.out; omega, hN, bN⟩
        · have y3 := cell_of_row _ _ 1 _ _ _ HQ.out
          have y4 := cell_of_row _ _ 2 _ _ _ HQ.out
          go_wp2_with fail
          clear y0 y1 y2 hkd bz hz
          try rw [hqa]
          clear hqa
          generalize wr.alloc (.cells #[.int .i64 z0, .int .i64 z1, .int .i64 z2] 28) = w4 at h4 bx HQ y3 y4 ⊢
          refine (b_set b s r t z1 z2 _ h4).mono ?_
          rintro e w5 ⟨rfl, hN, g5⟩
          have bN := below_row bx hlb g5 bx.size
          have hQ5 := row_off HQ.out g5 hqb
          clear y3 y4
          have y3 := cell_of_row _ _ 1 _ _ _ hQ5
          have y4 := cell_of_row _ _ 2 _ _ _ hQ5
          have HQ5 := Lib.hid hQ5
          clear hQ5
          go_wp2_with fail
          refine (bound_any z1 w5).mono ?_
          rintro e w6 ⟨rfl, rfl⟩
          go_wp2_with fail
          refine (bound_any z2 w5).mono ?_
          rintro e w6 ⟨rfl, rfl⟩
          obtain ⟨s', hs'⟩ : ∃ s', bnd z1 = s' := ⟨_, rfl⟩
          obtain ⟨r', hr'⟩ : ∃ r', bnd z2 = r' := ⟨_, rfl⟩
          rw [hs', hr'] at hN
          rw [hs', hr']
          clear hs' hr' y3 y4
          by_cases hc : s' < t
          · rw [Nat.min_eq_right (by omega)] at hN
            go_wp2_with fail
            refine (b_tokens b _ _ _ _ hN).mono ?_
            rintro e w6 ⟨rfl, rfl⟩
            go_wp2_with fail
            go_roundg (gk - 1)
            case measure => have := HIK.out; omega
            case rel => exact ⟨i + 1, _, _, _, rfl, rfl, rfl, by go_num, by have := HIK.out; omega, hN, bN⟩
          · rw [Nat.min_eq_left (by omega)] at hN
            have hcd : decide ((s' : Int) < (t : Int)) = false := by simp; omega
            go_wp2_with fail
            refine (b_tokens b _ _ _ _ hN).mono ?_
            rintro e w6 ⟨rfl, rfl⟩
            go_wp2_with fail
            go_roundg (gk - 1)
            case measure => have := HIK.out; omega
            case rel => exact ⟨i + 1, _, _, _, rfl, rfl, rfl, by go_num, by have := HIK.out; omega, hN, bN⟩
        · have hk4 : ((kd : Int) == 4) = false := by simp; omega
          have hk5 : ((kd : Int) == 5) = false := by simp; omega
          have hk6 : ((kd : Int) == 6) = false := by simp; omega
          have hk7 : ((kd : Int) == 7) = false := by simp; omega
          go_wp2_with fail
          clear hk4 hk5 hk6 hk7
          clear y0 y1 y2 hkd bz hz
          try rw [hqa]
          clear hqa
          generalize wr.alloc (.cells #[.int .i64 z0, .int .i64 z1, .int .i64 z2] 28) = w4 at h4 bx HQ ⊢
          refine (b_take b s r t _ h4).mono ?_
          rintro e w5 ⟨rfl, hN, g5⟩
          have bN := below_row bx hlb g5 bx.size
          cases t with
          | zero =>
            go_wp2_with fail
            refine (b_tokens b _ _ _ _ hN).mono ?_
            rintro e w6 ⟨rfl, rfl⟩
            go_wp2_with fail
            go_roundg (gk - 1)
            case measure => have := HIK.out; omega
            case rel => exact ⟨i + 1, _, _, _, rfl, rfl, rfl, by go_num, by have := HIK.out; omega, hN, bN⟩
          | succ t =>
            have ht1 : ((t + 1 : Nat) : Int) = (t : Int) + 1 := by omega
            have ht2 : decide (0 < t + 1) = true := by simp
            have ht3 : decide ((0 : Int) < (t : Int) + 1) = true := decide_eq_true (by omega)
            have ht4 : (t : Int) + 1 - 1 = (t : Int) := by omega
            rw [ht2, ht1]
            rw [ht1] at htI
            rw [Nat.add_sub_cancel] at hN
            clear ht1 ht2
            go_wp2_with fail
            refine (b_tokens b _ _ _ _ hN).mono ?_
            rintro e w6 ⟨rfl, rfl⟩
            go_wp2_with fail
            go_roundg (gk - 1)
            case measure => have := HIK.out; omega
            case rel => exact ⟨i + 1, _, _, _, rfl, rfl, rfl, by go_num, by have := HIK.out; omega, hN, bN⟩
      · obtain rfl : i = k := by omega
        clear hik HIK hi
        go_wp2_with fail
        go_ret
        exact ⟨rfl, bz⟩

end Go.Proofs.Ytancebpkiioaiaa.W
