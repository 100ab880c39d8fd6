/- The law BucketMore: its walk. -/
import Derived.Test.YtancebpkiioaiaaBuckB
import Derived.Test.YtancebpkiioaiaaActs
import Derived.Deep.DeepCutAuto
import Derived.Deep.CutBlock
namespace Go.Proofs.Ytancebpkiioaiaa.W
open Go.RowKit

theorem bnd_nat {n : Nat} (h : n ≤ 1000) : bnd (n : Int) = n := by unfold bnd; omega
theorem bnd_add {a c : Nat} (h : a + c ≤ 1000) : bnd ((a : Int) + (c : Int)) = a + c := by unfold bnd; omega

set_option maxRecDepth 100000 in
set_option maxHeartbeats 3200000 in
theorem more_walk (x0 x1 x2 x3 : Int) (a0 : Option Addr) (k cap : Nat) (Z : Nat → Int) (_hc : k ≤ cap) (w : World) (L : Lies w w.heap.size a0 (zs Z (k * 3))) :
    Calls Try.prog 6 #[.int .i64 x0, .int .i64 x1, .int .i64 x2, .int .i64 x3, .slice a0 k cap] w fun e w' => e = .returned (.bool true) ∧ Below w.heap.size w w' := by
  by_cases hk : 100 < k
  · have hki : decide ((100 : Int) < (k : Int)) = true := by simp; omega
    go_enter Try.func6, Try.ntmps6
    go_wp2_with fail
    refine (head10 _).mono ?_
    rintro e w1 ⟨rfl, b1⟩
    go_wp2_with fail
    go_ret
    exact ⟨rfl, b1⟩
  · have hki : decide ((100 : Int) < (k : Int)) = false := by simp; omega
    obtain ⟨s, hs, hs1⟩ := and_nat x0 255 8 256 (by decide) (by decide) (by decide)
    obtain ⟨r, hr, hr1⟩ := and_nat x1 63 6 64 (by decide) (by decide) (by decide)
    obtain ⟨p, hp, hp1⟩ := and_nat x2 255 8 256 (by decide) (by decide) (by decide)
    obtain ⟨q, hq, hq1⟩ := and_nat x3 63 6 64 (by decide) (by decide) (by decide)
    have hsI : (s : Int) < 256 := by omega
    have hrI : (r : Int) < 64 := by omega
    have hpI : (p : Int) < 256 := by omega
    have hqI : (q : Int) < 64 := by omega
    go_enter Try.func6, Try.ntmps6
    go_wp2_with fail
    refine (head10 _).mono ?_
    rintro e w1 ⟨rfl, b1⟩
    go_wp2_with fail
    refine (b_new (s : Int) (r : Int) w1).mono ?_
    rintro e w2 ⟨rfl, h2, b2⟩
    rw [bnd_nat (by omega), bnd_nat (by omega)] at h2
    obtain ⟨ba, hba⟩ : ∃ b, w1.heap.size = b := ⟨_, rfl⟩
    have bb2 := b1.trans (b2.mono b1.size)
    have hla : w.heap.size ≤ ba := by rw [← hba]; exact b1.size
    rw [hba] at h2
    rw [hba]
    clear hba b1 b2 hs hr
    go_wp2_with fail
    refine (b_new ((s : Int) + (p : Int)) ((r : Int) + (q : Int)) w2).mono ?_
    rintro e w3 ⟨rfl, h3, b3⟩
    rw [bnd_add (by omega), bnd_add (by omega)] at h3
    have h2' := h2.keep b3 h2.lt
    have hne : ba ≠ w2.heap.size := by have := h2.lt; omega
    obtain ⟨bb, hbb⟩ : ∃ b, w2.heap.size = b := ⟨_, rfl⟩
    have bb3 := bb2.trans (b3.mono bb2.size)
    have hlb : w.heap.size ≤ bb := by rw [← hbb]; exact bb2.size
    rw [hbb] at h3 hne
    rw [hbb]
    clear hbb h2 b3 bb2 hp hq
    go_wp2_with fail
    clear hki
    go_loopg [40] k (fun gk vi wr => ∃ (i ta tb : Nat), vi = .int .i64 (i : Int) ∧ i + gk = k ∧ Bk wr ba s r ta ∧ Bk wr bb (s + p) (r + q) tb ∧ ta ≤ tb ∧ Below w.heap.size w wr)
    case atStart => exact ⟨0, _, _, rfl, by omega, h2', h3, by omega, bb3⟩
    case round =>
      clear h2' h3 bb3
      obtain ⟨i, ta, tb, rfl, hik, ha, hb, hab, bz⟩ := hrel
      have HIK := Lib.hid hik
      have HAB := Lib.hid hab
      clear hab
      by_cases hi : i < k
      · obtain ⟨ad, hA, hadb, hcell⟩ := (L.below bz (Nat.le_refl _)).num (j := i * 3) (by omega)
        have hii : (i : Int) < (k : Int) := by omega
        have y0 := hcell (i * 3) (by omega)
        have y1 := cell_in (c := 0) (hcell (i * 3 + 1) (by omega))
        have y2 := cell_in (c := 1) (hcell (i * 3 + 2) (by omega))
        rw [Nat.zero_add] at y1
        rw [show (1 : Nat) + 1 = 2 from rfl] at y2
        obtain ⟨z0, hz0⟩ : ∃ z, Z (i * 3) = z := ⟨_, rfl⟩
        obtain ⟨z1, hz1⟩ : ∃ z, Z (i * 3 + 1) = z := ⟨_, rfl⟩
        obtain ⟨z2, hz2⟩ : ∃ z, Z (i * 3 + 2) = z := ⟨_, rfl⟩
        rw [hz0] at y0
        rw [hz1] at y1
        rw [hz2] at y2
        subst hA
        clear hcell hik hz0 hz1 hz2
        obtain ⟨kd, hkd, hkd4⟩ := and_nat z0 1 1 2 (by decide) (by decide) (by decide)
        have hb0 : Below wr.heap.size wr (wr.alloc (.cells #[.int .i64 z0, .int .i64 z1, .int .i64 z2] 28)) := (Below.refl _ _).alloc (Nat.le_refl _) _
        have bx := bz.trans (hb0.mono bz.size)
        have ha4 := ha.keep hb0 ha.lt
        have hb4 := hb.keep hb0 hb.lt
        clear hb0
        rcases (show kd = 0 ∨ kd = 1 by omega) with rfl | rfl
        · go_wp2_with fail
          clear y0 y1 y2 hkd bz ha hb
          generalize wr.alloc (.cells #[.int .i64 z0, .int .i64 z1, .int .i64 z2] 28) = w4 at ha4 hb4 bx ⊢
          refine (b_tick ba s r ta _ ha4).mono ?_
          rintro e w5 ⟨rfl, h5, g5⟩
          have b5 := below_row bx hla g5 bx.size
          have hb5 := hb4.off g5 (Ne.symm hne)
          go_wp2_with fail
          refine (b_tick bb (s + p) (r + q) tb _ hb5).mono ?_
          rintro e w6 ⟨rfl, h6, g6⟩
          have b6 := below_row b5 hlb g6 b5.size
          have ha6 := h5.off g6 hne
          go_wp2_with fail
          go_roundg (gk - 1)
          case measure => have := HIK.out; omega
          case rel => exact ⟨i + 1, _, _, by go_num, by have := HIK.out; omega, ha6, h6, by have := HAB.out; omega, b6⟩
        · go_wp2_with fail
          clear y0 y1 y2 hkd bz ha hb
          generalize wr.alloc (.cells #[.int .i64 z0, .int .i64 z1, .int .i64 z2] 28) = w4 at ha4 hb4 bx ⊢
          refine (b_take ba s r ta _ ha4).mono ?_
          rintro e w5 ⟨rfl, h5, g5⟩
          have b5 := below_row bx hla g5 bx.size
          have hb5 := hb4.off g5 (Ne.symm hne)
          by_cases h0 : 0 < ta
          · have d1 : decide (0 < ta) = true := by simpa using h0
            have d2 : decide (0 < tb) = true := by have := HAB.out; simp; omega
            rw [d1]
            go_wp2_with fail
            refine (b_take bb (s + p) (r + q) tb _ hb5).mono ?_
            rintro e w6 ⟨rfl, h6, g6⟩
            have b6 := below_row b5 hlb g6 b5.size
            have ha6 := h5.off g6 hne
            rw [d2]
            clear d1 d2 h0
            go_wp2_with fail
            go_roundg (gk - 1)
            case measure => have := HIK.out; omega
            case rel => exact ⟨i + 1, _, _, by go_num, by have := HIK.out; omega, ha6, h6, by have := HAB.out; omega, b6⟩
          · have d1 : decide (0 < ta) = false := by simpa using h0
            rw [d1]
            have HT0 := Lib.hid h0
            clear d1 h0
            go_wp2_with fail
            refine (b_take bb (s + p) (r + q) tb _ hb5).mono ?_
            rintro e w6 ⟨rfl, h6, g6⟩
            have b6 := below_row b5 hlb g6 b5.size
            have ha6 := h5.off g6 hne
            go_wp2_with fail
            go_roundg (gk - 1)
            case measure => have := HIK.out; omega
            case rel => exact ⟨i + 1, _, _, by go_num, by have := HIK.out; omega, ha6, h6, by have := HAB.out; have := HT0.out; omega, b6⟩
      · obtain rfl : i = k := by omega
        clear hik HIK hi
        go_wp2_with fail
        refine (b_tokens ba s r ta _ ha).mono ?_
        rintro e w3 ⟨rfl, rfl⟩
        go_wp2_with fail
        refine (b_tokens bb (s + p) (r + q) tb _ hb).mono ?_
        rintro e w3 ⟨rfl, rfl⟩
        have hle : decide ((ta : Int) ≤ (tb : Int)) = true := by have := HAB.out; simp; omega
        go_wp2_with fail
        go_ret
        refine ⟨?_, bz⟩
        simp [HAB.out]

end Go.Proofs.Ytancebpkiioaiaa.W
