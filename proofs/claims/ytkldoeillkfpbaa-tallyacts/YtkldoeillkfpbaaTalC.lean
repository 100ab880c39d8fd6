/- The law TallyActs: its walk. -/
import Derived.Test.YtkldoeillkfpbaaTalB
namespace Go.Proofs.Ytkldoeillkfpbaa.W
open Go.RowKit

theorem row_off' {w w' : World} {q b : Nat} {o : Obj} (h : w.heap[q]? = some o) (hg : w.grownBy w' (some b)) (hne : q ≠ b) : w'.heap[q]? = some o := by
  rw [hg.block q (lt_of_row h) (by simpa using hne)]; exact h

set_option maxRecDepth 100000 in
set_option maxHeartbeats 3200000 in
theorem tacts_walk (a0 : Option Addr) (k cap : Nat) (Z : Nat → Int) (_hc : k ≤ cap) (w : World) (L : Lies w w.heap.size a0 (zs Z (k * 2))) (wf : ∀ j, j < k * 2 → (Lit.int .i64 (Z j)).wf = true) :
    Calls Try.prog 6 #[.slice a0 k cap] w fun e w' => e = .returned (.bool true) ∧ Below w.heap.size w w' := by
  by_cases hk : 200 < k
  · have hki : decide ((200 : Int) < (k : Int)) = true := by simp; omega
    go_enter Try.func6, Try.ntmps6
    go_wp2_with fail
    refine (head15 _).mono ?_
    rintro e w1 ⟨rfl, b1⟩
    go_wp2_with fail
    go_ret
    exact ⟨rfl, b1⟩
  have hki : decide ((200 : Int) < (k : Int)) = false := by simp; omega
  go_enter Try.func6, Try.ntmps6
  go_wp2_with fail
  refine (head15 _).mono ?_
  rintro e w1 ⟨rfl, b1⟩
  go_upto_region 6 with (fail)
  have h2 := cn_new w1
  have bb2 : Below w.heap.size w (w1.alloc (.cells #[.int .i64 0] 56)) := b1.alloc b1.size _
  obtain ⟨a, ha⟩ : ∃ a, w1.heap.size = a := ⟨_, rfl⟩
  have hla : w.heap.size ≤ a := by rw [← ha]; exact b1.size
  rw [ha] at h2
  try rw [ha]
  generalize w1.alloc (.cells #[.int .i64 0] 56) = w2 at h2 bb2 ⊢
  clear ha b1 hki
  go_wp2_with fail
  go_loopg [4, 17] k (fun gk v4 vi wr => ∃ (i : Nat) (n : Int), v4 = .int .i64 n ∧ vi = .int .i64 (i : Int) ∧ i + gk = k ∧ Cn wr a n ∧ Below w.heap.size w wr)
  case atStart => exact ⟨0, 0, rfl, rfl, by omega, h2, bb2⟩
  case round =>
    clear h2 bb2
    obtain ⟨i, n, rfl, rfl, hik, hz, bz⟩ := hrel
    have HIK := Lib.hid hik
    by_cases hi : i < k
    · obtain ⟨ad, hA, hadb, hcell⟩ := (L.below bz (Nat.le_refl _)).num (j := i * 2) (by omega)
      have hii : (i : Int) < (k : Int) := by omega
      have y0 := hcell (i * 2) (by omega)
      have y1 := cell_in (c := 0) (hcell (i * 2 + 1) (by omega))
      rw [Nat.zero_add] at y1
      have wf1 := i64_of (wf (i * 2 + 1) (by omega))
      obtain ⟨z0, hz0⟩ : ∃ z, Z (i * 2) = z := ⟨_, rfl⟩
      obtain ⟨z1, hz1⟩ : ∃ z, Z (i * 2 + 1) = z := ⟨_, rfl⟩
      rw [hz0] at y0
      rw [hz1] at y1 wf1
      subst hA
      clear hcell hik hz0 hz1
      obtain ⟨kd, hkd, hkd4⟩ := and_nat z0 3 2 4 (by decide) (by decide) (by decide)
      have bx := bz.alloc bz.size (.cells #[.int .i64 z0, .int .i64 z1] 58)
      have h4 : Cn (wr.alloc (.cells #[.int .i64 z0, .int .i64 z1] 58)) a n := ⟨hz.1, by rw [(World.grownBy_alloc wr (.cells #[.int .i64 z0, .int .i64 z1] 58) none).block a hz.lt (by simp)]; exact hz.2⟩
      have HQ := Lib.hid (heap_alloc_new wr (.cells #[.int .i64 z0, .int .i64 z1] 58))
      have hqb : wr.heap.size ≠ a := by have := hz.lt; omega
      obtain ⟨qa, hqa⟩ : ∃ q, wr.heap.size = q := ⟨_, rfl⟩
      rw [hqa] at HQ hqb
      go_upto_region 11 with (fail)
      clear y0 y1 bz hz
      try rw [hqa]
      clear hqa
      generalize wr.alloc (.cells #[.int .i64 z0, .int .i64 z1] 58) = w4 at h4 bx HQ ⊢
      have x0 := cell_of_row _ _ 0 _ _ _ HQ.out
      have x1 := cell_of_row _ _ 1 _ _ _ HQ.out
      by_cases hk2 : kd = 2
      · subst hk2
        go_wp2_with fail
        clear x0 x1 hkd
        refine (tl_most a n z1 _ h4 wf1).mono ?_
        rintro e w5 ⟨rfl, h5, g5⟩
        have b5 := below_row bx hla g5 bx.size
        have x1 := cell_of_row _ _ 1 _ _ _ (row_off' HQ.out g5 hqb)
        by_cases hnz : n < z1
        · rw [show max n z1 = z1 by omega] at h5 ⊢
          have hnzd : decide (n < z1) = true := by simpa using hnz
          clear hnz
          by_cases hM : z1 = 9223372036854775807
          · subst hM
            go_wp2_with fail
            refine (tl_load a _ _ h5).mono ?_
            rintro e w6 ⟨rfl, rfl⟩
            go_wp2_with fail
            refine (tl_full a _ _ h5).mono ?_
            rintro e w6 ⟨rfl, rfl⟩
            go_wp2_with fail
            go_roundg (gk - 1)
            case measure => have := HIK.out; omega
            case rel => exact ⟨i + 1, _, rfl, by go_num, by have := HIK.out; omega, h5, b5⟩
          · have hMd : (z1 == 9223372036854775807) = false := by simpa using hM
            clear hM
            go_wp2_with fail
            refine (tl_load a _ _ h5).mono ?_
            rintro e w6 ⟨rfl, rfl⟩
            go_wp2_with fail
            refine (tl_full a _ _ h5).mono ?_
            rintro e w6 ⟨rfl, rfl⟩
            go_wp2_with fail
            go_roundg (gk - 1)
            case measure => have := HIK.out; omega
            case rel => exact ⟨i + 1, _, rfl, by go_num, by have := HIK.out; omega, h5, b5⟩
        · rw [show max n z1 = n by omega] at h5 ⊢
          have hnzd : decide (n < z1) = false := by simpa using hnz
          clear hnz
          by_cases hM : n = 9223372036854775807
          · subst hM
            go_wp2_with fail
            refine (tl_load a _ _ h5).mono ?_
            rintro e w6 ⟨rfl, rfl⟩
            go_wp2_with fail
            refine (tl_full a _ _ h5).mono ?_
            rintro e w6 ⟨rfl, rfl⟩
            go_wp2_with fail
            go_roundg (gk - 1)
            case measure => have := HIK.out; omega
            case rel => exact ⟨i + 1, _, rfl, by go_num, by have := HIK.out; omega, h5, b5⟩
          · have hMd : (n == 9223372036854775807) = false := by simpa using hM
            clear hM
            go_wp2_with fail
            refine (tl_load a _ _ h5).mono ?_
            rintro e w6 ⟨rfl, rfl⟩
            go_wp2_with fail
            refine (tl_full a _ _ h5).mono ?_
            rintro e w6 ⟨rfl, rfl⟩
            go_wp2_with fail
            go_roundg (gk - 1)
            case measure => have := HIK.out; omega
            case rel => exact ⟨i + 1, _, rfl, by go_num, by have := HIK.out; omega, h5, b5⟩
      · have hk2d : ((kd : Int) == 2) = false := by simp; omega
        have hni := h4.1
        clear hk2
        go_wp2_with fail
        clear x0 x1 hkd hk2d
        refine (tl_add a n z1 _ h4 wf1).mono ?_
        rintro e w5 ⟨rfl, h5, g5⟩
        have b5 := below_row bx hla g5 bx.size
        have x1 := cell_of_row _ _ 1 _ _ _ (row_off' HQ.out g5 hqb)
        have hadd := add_any n z1 hni wf1 w5
        obtain ⟨r, hr⟩ : ∃ r, sat (n + z1) = r := ⟨_, rfl⟩
        rw [hr] at h5 hadd ⊢
        clear hr
        by_cases hM : r = 9223372036854775807
        · subst hM
          go_wp2_with fail
          refine hadd.mono ?_
          rintro e w6 ⟨rfl, rfl⟩
          clear hadd
          go_wp2_with fail
          refine (tl_load a _ _ h5).mono ?_
          rintro e w6 ⟨rfl, rfl⟩
          go_wp2_with fail
          refine (tl_full a _ _ h5).mono ?_
          rintro e w6 ⟨rfl, rfl⟩
          go_wp2_with fail
          go_roundg (gk - 1)
          case measure => have := HIK.out; omega
          case rel => exact ⟨i + 1, _, rfl, by go_num, by have := HIK.out; omega, h5, b5⟩
        · have hMd : (r == 9223372036854775807) = false := by simpa using hM
          clear hM
          go_wp2_with fail
          refine hadd.mono ?_
          rintro e w6 ⟨rfl, rfl⟩
          clear hadd
          go_wp2_with fail
          refine (tl_load a _ _ h5).mono ?_
          rintro e w6 ⟨rfl, rfl⟩
          go_wp2_with fail
          refine (tl_full a _ _ h5).mono ?_
          rintro e w6 ⟨rfl, rfl⟩
          go_wp2_with fail
          go_roundg (gk - 1)
          case measure => have := HIK.out; omega
          case rel => exact ⟨i + 1, _, rfl, by go_num, by have := HIK.out; omega, h5, b5⟩
    · obtain rfl : i = k := by omega
      clear hik HIK hi
      go_wp2_with fail
      go_ret
      exact ⟨rfl, bz⟩

end Go.Proofs.Ytkldoeillkfpbaa.W
