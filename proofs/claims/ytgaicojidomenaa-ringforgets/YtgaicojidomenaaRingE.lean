/- The laws RingForgets and RingJoins: their walks. -/
import Derived.Test.YtgaicojidomenaaRingD
namespace Go.Proofs.Ytgaicojidomenaa.W
open Go.RowKit

theorem new_two {w w1 w2 w3 : World} {r s : Nat} {ys : List Int} (hb1 : Below w.heap.size w w1) (hr : w1.heap.size = r) (hR2 : Rg w2 r ys) (hb2 : Below w1.heap.size w1 w2) (hs : w2.heap.size = s) (hb3 : Below w2.heap.size w2 w3) :
    Rg w3 r ys ∧ w.heap.size ≤ r ∧ w.heap.size ≤ s ∧ r ≠ s ∧ Below w.heap.size w w3 := by
  have h1 := hR2.lt
  have h2 := hb1.size
  have h3 := hb2.size
  exact ⟨hR2.keep hb3 h1, by omega, by omega, by omega, (hb1.trans (hb2.mono h2)).trans (hb3.mono (by omega))⟩

set_option maxRecDepth 100000 in
set_option maxHeartbeats 3200000 in
theorem forgets_walk (A0 A1 A2 : Option Addr) (k0 k1 k2 c0 c1 c2 : Nat) (xs ys zs : List Int) (w : World) (hk0 : k0 = xs.length) (hk1 : k1 = ys.length) (hk2 : k2 = zs.length)
    (hA0 : Lies w w.heap.size A0 (ints xs)) (hA1 : Lies w w.heap.size A1 (ints ys)) (hA2 : Lies w w.heap.size A2 (ints zs)) (hm0 : k0 ≤ 9223372036854775807) (hm1 : k1 ≤ 9223372036854775807) (hm2 : k2 ≤ 9223372036854775807) :
    Calls Try.prog 11 #[.slice A0 k0 c0, .slice A1 k1 c1, .slice A2 k2 c2] w fun e w' => e = .returned (.bool true) ∧ Below w.heap.size w w' := by
  have HK0 := Lib.hid hk0
  have HK1 := Lib.hid hk1
  have HK2 := Lib.hid hk2
  clear hk0 hk1 hk2
  by_cases h0 : 60 < k0
  · go_enter Try.func11, Try.ntmps11
    go_wp2_with fail
    refine (ring_head _).mono ?_
    rintro e w1 ⟨rfl, hb1⟩
    go_wp2_with fail
    go_ret
    exact ⟨rfl, hb1⟩
  by_cases h1 : 60 < k1
  · go_enter Try.func11, Try.ntmps11
    go_wp2_with fail
    refine (ring_head _).mono ?_
    rintro e w1 ⟨rfl, hb1⟩
    go_wp2_with fail
    go_ret
    exact ⟨rfl, hb1⟩
  by_cases h2 : k2 = 8
  case neg =>
    have hd : ((k2 : Int) != 8) = true := by simp; omega
    go_enter Try.func11, Try.ntmps11
    go_wp2_with fail
    refine (ring_head _).mono ?_
    rintro e w1 ⟨rfl, hb1⟩
    go_wp2_with fail
    go_ret
    exact ⟨rfl, hb1⟩
  subst h2
  clear hm0 hm1 hm2
  go_enter Try.func11, Try.ntmps11
  go_wp2_with fail
  refine (ring_head _).mono ?_
  rintro e w1 ⟨rfl, hb1⟩
  go_wp2_with fail
  refine (ring_new _).mono ?_
  rintro e w2 ⟨rfl, hR2, hb2⟩
  obtain ⟨r, hr⟩ : ∃ r, w1.heap.size = r := ⟨_, rfl⟩
  rw [hr] at hR2 ⊢
  go_wp2_with fail
  refine (ring_new _).mono ?_
  rintro e w3 ⟨rfl, hS3, hb3⟩
  obtain ⟨s, hs⟩ : ∃ s, w2.heap.size = s := ⟨_, rfl⟩
  rw [hs] at hS3 ⊢
  obtain ⟨hR3, hrw, hsw, hrs, hb4⟩ := new_two hb1 hr hR2 hb2 hs hb3
  clear hb1 hb2 hb3 hR2 hr hs
  go_wp2_with fail
  go_loopg [37] k0 (fun gk vi wr => ∃ i : Nat, vi = .int .i64 (i : Int) ∧ i + gk = k0 ∧ Rg wr r (last8 (xs.take i)) ∧ Rg wr s [] ∧ Below w.heap.size w wr)
  case atStart => exact ⟨0, rfl, by omega, hR3, hS3, hb4⟩
  case round =>
    obtain ⟨i, rfl, hik, hRz, hSz, hbz⟩ := hrel
    have HIK := Lib.hid hik
    clear hR3 hS3 hb4
    by_cases hi : i < k0
    · obtain ⟨ad, x, rfl, hblk, hx, hcx⟩ := hA0.int (show i < xs.length by rw [← HK0.out]; exact hi)
      have hcx' : wr.cell? (ad.add i) = some (.int .i64 x) := by rw [hbz.cell (by rw [blk_add]; exact hblk)]; exact hcx
      have HX := Lib.hid hx
      clear hik hcx hx
      go_wp2_with fail
      refine (ring_push r _ x _ hRz).mono ?_
      rintro e w4 ⟨rfl, hR4, hg4⟩
      rw [last8_last, ← take_snoc HX.out] at hR4
      have hb5 := below_row hbz hrw hg4 hbz.size
      have hS4 := hSz.off hg4 hrs.symm
      clear hcx'
      go_wp2_with fail
      go_roundg (gk - 1)
      case measure => have := HIK.out; omega
      case rel => exact ⟨i + 1, by go_num, by have := HIK.out; omega, hR4, hS4, hb5⟩
    · rw [List.take_of_length_le (by rw [← HK0.out]; omega)] at hRz
      clear hik HIK
      go_wp2_with fail
      go_loopg [47] k1 (fun gk vi wr => ∃ i : Nat, vi = .int .i64 (i : Int) ∧ i + gk = k1 ∧ Rg wr r (last8 xs) ∧ Rg wr s (last8 (ys.take i)) ∧ Below w.heap.size w wr)
      case atStart => exact ⟨0, rfl, by omega, hRz, hSz, hbz⟩
      case round =>
        clear hi hRz hSz hbz
        obtain ⟨i, rfl, hik, hRz, hSz, hbz⟩ := hrel
        have HIK := Lib.hid hik
        by_cases hi : i < k1
        · obtain ⟨ad, x, rfl, hblk, hx, hcx⟩ := hA1.int (show i < ys.length by rw [← HK1.out]; exact hi)
          have hcx' : wr.cell? (ad.add i) = some (.int .i64 x) := by rw [hbz.cell (by rw [blk_add]; exact hblk)]; exact hcx
          have HX := Lib.hid hx
          clear hik hcx hx
          go_wp2_with fail
          refine (ring_push s _ x _ hSz).mono ?_
          rintro e w4 ⟨rfl, hS4, hg4⟩
          rw [last8_last, ← take_snoc HX.out] at hS4
          have hb5 := below_row hbz hsw hg4 hbz.size
          have hR4 := hRz.off hg4 hrs
          clear hcx'
          go_wp2_with fail
          go_roundg (gk - 1)
          case measure => have := HIK.out; omega
          case rel => exact ⟨i + 1, by go_num, by have := HIK.out; omega, hR4, hS4, hb5⟩
        · rw [List.take_of_length_le (by rw [← HK1.out]; omega)] at hSz
          clear hik HIK
          go_wp2_with fail
          go_loopg [57] 8 (fun gk vi wr => ∃ i : Nat, vi = .int .i64 (i : Int) ∧ i + gk = 8 ∧ Rg wr r (last8 (xs ++ zs.take i)) ∧ Rg wr s (last8 (ys ++ zs.take i)) ∧ Below w.heap.size w wr)
          case atStart => exact ⟨0, rfl, by omega, by simpa using hRz, by simpa using hSz, hbz⟩
          case round =>
            clear hi hRz hSz hbz
            obtain ⟨i, rfl, hik, hRz, hSz, hbz⟩ := hrel
            have HIK := Lib.hid hik
            by_cases hi : i < 8
            · obtain ⟨ad, x, rfl, hblk, hx, hcx⟩ := hA2.int (show i < zs.length by rw [← HK2.out]; exact hi)
              have hcx' : wr.cell? (ad.add i) = some (.int .i64 x) := by rw [hbz.cell (by rw [blk_add]; exact hblk)]; exact hcx
              have HX := Lib.hid hx
              clear hik hcx hx
              go_wp2_with fail
              refine (ring_push r _ x _ hRz).mono ?_
              rintro e w4 ⟨rfl, hR4, hg4⟩
              rw [last8_last, List.append_assoc, ← take_snoc HX.out] at hR4
              have hb5 := below_row hbz hrw hg4 hbz.size
              have hS4 := hSz.off hg4 hrs.symm
              clear hcx' hSz hRz hbz hg4
              go_wp2_with fail
              refine (ring_push s _ x _ hS4).mono ?_
              rintro e w5 ⟨rfl, hS5, hg5⟩
              rw [last8_last, List.append_assoc, ← take_snoc HX.out] at hS5
              have hb6 := below_row hb5 hsw hg5 hb5.size
              have hR5 := hR4.off hg5 hrs
              go_wp2_with fail
              go_roundg (gk - 1)
              case measure => have := HIK.out; omega
              case rel => exact ⟨i + 1, by go_num, by have := HIK.out; omega, hR5, hS5, hb6⟩
            · have ez : ∀ l : List Int, last8 (l ++ zs.take i) = zs := by
                intro l
                rw [List.take_of_length_le (by rw [← HK2.out]; omega), last8_app (by rw [← HK2.out]; omega), last8_small (by rw [← HK2.out]; omega)]
              rw [ez] at hRz hSz
              clear hik HIK ez
              go_wp2_with fail
              refine (ring_list r _ _ hRz).mono ?_
              rintro e w4 ⟨g, cap, m, HM, rfl, own, hb4⟩
              obtain rfl : m = 8 := HM.out.trans HK2.out.symm
              have hS4 := hSz.keep hb4 hSz.lt
              have hb5 := hbz.trans (hb4.mono hbz.size)
              clear HM hRz hSz hb4 hbz
              go_wp2_with fail
              refine (ring_list s _ _ hS4).mono ?_
              rintro e w5 ⟨g', cap', m, HM, rfl, own', hb4⟩
              obtain rfl : m = 8 := HM.out.trans HK2.out.symm
              have hb6 := hb5.trans (hb4.mono hb5.size)
              have L1 := (lies_own own).below hb4 (Nat.le_refl _)
              have L2 := lies_own own'
              have L3 := hA2.below hb6 (Nat.le_refl _)
              clear hS4 own own' hb5 HM hb4
              go_wp2_with fail
              go_loopg [82] 8 (fun gk vi wr => ∃ j : Nat, vi = .int .i64 (j : Int) ∧ j + gk = 8 ∧ ∃ q, wr = w5.drewN q)
              case atStart => exact ⟨0, rfl, by omega, 0, rfl⟩
              case round =>
                obtain ⟨j, rfl, hjk, q, hq⟩ := hrel
                have HQ := Lib.hid hq
                have HJK := Lib.hid hjk
                by_cases hj : j < 8
                · obtain ⟨ad1, y1, e1, _, hy1, a1⟩ := L1.int (i := j) (by rw [← HK2.out]; exact hj)
                  obtain ⟨ad2, y2, e2, _, hy2, a2⟩ := L2.int (i := j) (by rw [← HK2.out]; exact hj)
                  obtain ⟨ad3, y3, rfl, _, hy3, a3⟩ := L3.int (i := j) (by rw [← HK2.out]; exact hj)
                  injection e1 with e1
                  subst e1
                  injection e2 with e2
                  subst e2
                  rw [hy1] at hy2 hy3
                  injection hy2 with hy2
                  subst hy2
                  injection hy3 with hy3
                  subst hy3
                  rw [add_lit0] at a1 a2
                  have a1' : wr.cell? ⟨g, j, none⟩ = some (.int .i64 y1) := by rw [hq]; exact a1
                  have a2' : wr.cell? ⟨g', j, none⟩ = some (.int .i64 y1) := by rw [hq]; exact a2
                  have a3' : wr.cell? (ad3.add j) = some (.int .i64 y1) := by rw [hq]; exact a3
                  have HY := Lib.hid hy1
                  clear a1 a2 a3 hq hjk hy1
                  have hjm : (j : Int) < 8 := by omega
                  have hdd : (y1 != y1) = false := by simp
                  go_wp2_with fail
                  go_quiet (fail)
                  go_wp2_with fail
                  go_roundg (gk - 1)
                  case measure => have := HJK.out; omega
                  case rel => exact ⟨j + 1, by go_num, by have := HJK.out; omega, _, by rw [HQ.out]; exact drewN_two _ _ _⟩
                · have hbe : Below w.heap.size w wr := by rw [hq]; exact below_drewN hb6 q
                  clear hjk hq
                  go_wp2_with fail
                  go_ret
                  exact ⟨rfl, hbe⟩

theorem forgets_law (A0 A1 A2 : Option Addr) (k0 k1 k2 c0 c1 c2 : Nat) (xs ys zs : List Int) (w : World) (hk0 : xs.length = k0) (hc0 : k0 ≤ c0) (hm0 : c0 ≤ maxLen) (hA0 : Lies w w.heap.size A0 (ints xs))
    (hk1 : ys.length = k1) (hc1 : k1 ≤ c1) (hm1 : c1 ≤ maxLen) (hA1 : Lies w w.heap.size A1 (ints ys)) (hk2 : zs.length = k2) (hc2 : k2 ≤ c2) (hm2 : c2 ≤ maxLen) (hA2 : Lies w w.heap.size A2 (ints zs)) :
    Calls Try.prog 11 #[.slice A0 k0 c0, .slice A1 k1 c1, .slice A2 k2 c2] w fun e w' => e = .returned (.bool true) ∧ Below w.heap.size w w' := by
  simp only [maxLen] at hm0 hm1 hm2
  exact forgets_walk A0 A1 A2 k0 k1 k2 c0 c1 c2 xs ys zs w hk0.symm hk1.symm hk2.symm hA0 hA1 hA2 (by omega) (by omega) (by omega)

set_option maxRecDepth 100000 in
set_option maxHeartbeats 3200000 in
theorem joins_walk (A0 A1 : Option Addr) (k0 k1 c0 c1 : Nat) (xs ys : List Int) (w : World) (hk0 : k0 = xs.length) (hk1 : k1 = ys.length)
    (hA0 : Lies w w.heap.size A0 (ints xs)) (hA1 : Lies w w.heap.size A1 (ints ys)) (hm0 : k0 ≤ 9223372036854775807) (hm1 : k1 ≤ 9223372036854775807) :
    Calls Try.prog 13 #[.slice A0 k0 c0, .slice A1 k1 c1] w fun e w' => e = .returned (.bool true) ∧ Below w.heap.size w w' := by
  have HK0 := Lib.hid hk0
  have HK1 := Lib.hid hk1
  clear hk0 hk1
  by_cases h0 : 60 < k0
  · go_enter Try.func13, Try.ntmps13
    go_wp2_with fail
    refine (ring_head _).mono ?_
    rintro e w1 ⟨rfl, hb1⟩
    go_wp2_with fail
    go_ret
    exact ⟨rfl, hb1⟩
  by_cases h1 : 60 < k1
  · go_enter Try.func13, Try.ntmps13
    go_wp2_with fail
    refine (ring_head _).mono ?_
    rintro e w1 ⟨rfl, hb1⟩
    go_wp2_with fail
    go_ret
    exact ⟨rfl, hb1⟩
  clear hm0 hm1
  go_enter Try.func13, Try.ntmps13
  go_wp2_with fail
  refine (ring_head _).mono ?_
  rintro e w1 ⟨rfl, hb1⟩
  go_wp2_with fail
  refine (ring_new _).mono ?_
  rintro e w2 ⟨rfl, hR2, hb2⟩
  obtain ⟨r, hr⟩ : ∃ r, w1.heap.size = r := ⟨_, rfl⟩
  have hb4 := hb1.trans (hb2.mono hb1.size)
  have hrw : w.heap.size ≤ r := by rw [← hr]; exact hb1.size
  rw [hr] at hR2 ⊢
  clear hb1 hb2 hr
  go_wp2_with fail
  go_loopg [30] k0 (fun gk vi wr => ∃ i : Nat, vi = .int .i64 (i : Int) ∧ i + gk = k0 ∧ Rg wr r (last8 (xs.take i)) ∧ Below w.heap.size w wr)
  case atStart => exact ⟨0, rfl, by omega, hR2, hb4⟩
  case round =>
    obtain ⟨i, rfl, hik, hRz, hbz⟩ := hrel
    have HIK := Lib.hid hik
    clear hR2 hb4
    by_cases hi : i < k0
    · obtain ⟨ad, x, rfl, hblk, hx, hcx⟩ := hA0.int (show i < xs.length by rw [← HK0.out]; exact hi)
      have hcx' : wr.cell? (ad.add i) = some (.int .i64 x) := by rw [hbz.cell (by rw [blk_add]; exact hblk)]; exact hcx
      have HX := Lib.hid hx
      clear hik hcx hx
      go_wp2_with fail
      refine (ring_push r _ x _ hRz).mono ?_
      rintro e w4 ⟨rfl, hR4, hg4⟩
      rw [last8_last, ← take_snoc HX.out] at hR4
      have hb5 := below_row hbz hrw hg4 hbz.size
      clear hcx'
      go_wp2_with fail
      go_roundg (gk - 1)
      case measure => have := HIK.out; omega
      case rel => exact ⟨i + 1, by go_num, by have := HIK.out; omega, hR4, hb5⟩
    · rw [List.take_of_length_le (by rw [← HK0.out]; omega)] at hRz
      clear hik HIK
      go_wp2_with fail
      refine (ring_list r _ _ hRz).mono ?_
      rintro e w2 ⟨g, cap, m, HM, rfl, own, hb2⟩
      have hm8 : m ≤ 8 := by rw [HM.out, last8_len]; omega
      have hR3 := hRz.keep hb2 hRz.lt
      have hb3 := hbz.trans (hb2.mono hbz.size)
      have L0 := lies_own own
      obtain ⟨ws, hws⟩ : ∃ ws, last8 xs = ws := ⟨_, rfl⟩
      rw [hws] at hR3 L0
      have HM2 : Hid (m = ws.length) := by rw [← hws]; exact HM
      have HWS := Lib.hid hws
      have hr2 := hR3.lt
      clear own hb2 hbz hRz HM hws
      go_wp2_with fail
      refine (ring_new _).mono ?_
      rintro e w3 ⟨rfl, hS4, hb4⟩
      obtain ⟨s, hs⟩ : ∃ s, w2.heap.size = s := ⟨_, rfl⟩
      have hb5 := hb3.trans (hb4.mono hb3.size)
      have hR4 := hR3.keep hb4 hr2
      have hsw : w.heap.size ≤ s := by rw [← hs]; exact hb3.size
      have hrs : r ≠ s := by omega
      have L1 : Lies w3 s (some ⟨g, 0, none⟩) (ints ws) := by rw [← hs]; exact L0.below hb4 (Nat.le_refl _)
      rw [hs] at hS4 ⊢
      clear hb3 hb4 L0 hs hR3
      go_wp2_with fail
      go_loopg [43] m (fun gk vi wr => ∃ i : Nat, vi = .int .i64 (i : Int) ∧ i + gk = m ∧ Rg wr r ws ∧ Rg wr s (last8 (ws.take i)) ∧ Lies wr s (some ⟨g, 0, none⟩) (ints ws) ∧ Below w.heap.size w wr)
      case atStart => exact ⟨0, rfl, by omega, hR4, hS4, L1, hb5⟩
      case round =>
        clear hi hR4 hS4 L1 hb5
        obtain ⟨i, rfl, hik, hRz, hSz, hLz, hbz⟩ := hrel
        have HIK := Lib.hid hik
        by_cases hi : i < m
        · obtain ⟨ad, x, e1, hblk, hx, hcx⟩ := hLz.int (show i < ws.length by rw [← HM2.out]; exact hi)
          injection e1 with e1
          subst e1
          rw [add_lit0] at hcx
          have HX := Lib.hid hx
          clear hik hx
          go_wp2_with fail
          refine (ring_push s _ x _ hSz).mono ?_
          rintro e w4 ⟨rfl, hS4, hg4⟩
          rw [last8_last, ← take_snoc HX.out] at hS4
          have hb5 := below_row hbz hsw hg4 hbz.size
          have hR4 := hRz.off hg4 hrs
          have L4 := hLz.keep (fun b hb => hg4.block b (by have := hSz.lt; omega) (by simp; omega))
          clear hcx
          go_wp2_with fail
          go_roundg (gk - 1)
          case measure => have := HIK.out; omega
          case rel => exact ⟨i + 1, by go_num, by have := HIK.out; omega, hR4, hS4, L4, hb5⟩
        · rw [List.take_of_length_le (by rw [← HM2.out]; omega)] at hSz
          clear hik HIK hLz
          go_wp2_with fail
          go_loopg [53] k1 (fun gk vi wr => ∃ i : Nat, vi = .int .i64 (i : Int) ∧ i + gk = k1 ∧ Rg wr r (last8 (ws ++ ys.take i)) ∧ Rg wr s (last8 (ws ++ ys.take i)) ∧ Below w.heap.size w wr)
          case atStart =>
            have e8 : last8 ws = ws := last8_small (by rw [← HM2.out]; exact hm8)
            rw [e8] at hSz
            exact ⟨0, rfl, by omega, by simpa [e8] using hRz, by simpa [e8] using hSz, hbz⟩
          case round =>
            clear hi hRz hSz hbz
            obtain ⟨i, rfl, hik, hRz, hSz, hbz⟩ := hrel
            have HIK := Lib.hid hik
            by_cases hi : i < k1
            · obtain ⟨ad, x, rfl, hblk, hx, hcx⟩ := hA1.int (show i < ys.length by rw [← HK1.out]; exact hi)
              have hcx' : wr.cell? (ad.add i) = some (.int .i64 x) := by rw [hbz.cell (by rw [blk_add]; exact hblk)]; exact hcx
              have HX := Lib.hid hx
              clear hik hcx hx
              go_wp2_with fail
              refine (ring_push r _ x _ hRz).mono ?_
              rintro e w4 ⟨rfl, hR4, hg4⟩
              rw [last8_last, List.append_assoc, ← take_snoc HX.out] at hR4
              have hb5 := below_row hbz hrw hg4 hbz.size
              have hS4 := hSz.off hg4 hrs.symm
              clear hcx' hSz hRz hbz hg4
              go_wp2_with fail
              refine (ring_push s _ x _ hS4).mono ?_
              rintro e w5 ⟨rfl, hS5, hg5⟩
              rw [last8_last, List.append_assoc, ← take_snoc HX.out] at hS5
              have hb6 := below_row hb5 hsw hg5 hb5.size
              have hR5 := hR4.off hg5 hrs
              go_wp2_with fail
              go_roundg (gk - 1)
              case measure => have := HIK.out; omega
              case rel => exact ⟨i + 1, by go_num, by have := HIK.out; omega, hR5, hS5, hb6⟩
            · obtain ⟨zs, hzs⟩ : ∃ zs, last8 (ws ++ ys.take i) = zs := ⟨_, rfl⟩
              have hz8 : zs.length ≤ 8 := by rw [← hzs, last8_len]; omega
              rw [hzs] at hRz hSz
              have HZ := Lib.hid hzs
              have HZ8 := Lib.hid hz8
              clear hik HIK hzs hz8
              go_wp2_with fail
              refine (ring_list r _ _ hRz).mono ?_
              rintro e w4 ⟨g1, cap1, m1, HM1, rfl, own, hb4⟩
              have hS4 := hSz.keep hb4 hSz.lt
              have hb5 := hbz.trans (hb4.mono hbz.size)
              have hm18 : m1 ≤ 8 := by rw [HM1.out]; exact HZ8.out
              clear hRz hSz hb4 hbz
              go_wp2_with fail
              refine (ring_list s _ _ hS4).mono ?_
              rintro e w5 ⟨g', cap', m', HM', rfl, own', hb4⟩
              obtain rfl : m1 = m' := HM1.out.trans HM'.out.symm
              have hb6 := hb5.trans (hb4.mono hb5.size)
              have L1 := (lies_own own).below hb4 (Nat.le_refl _)
              have L2 := lies_own own'
              clear hS4 own own' hb5 HM' hb4
              have hd8 : decide ((8 : Int) < (m : Int)) = false := by simp; omega
              go_wp2_with fail
              go_loopg [80] m1 (fun gk vi wr => ∃ j : Nat, vi = .int .i64 (j : Int) ∧ j + gk = m1 ∧ ∃ q, wr = w5.drewN q)
              case atStart => exact ⟨0, rfl, by omega, 0, rfl⟩
              case round =>
                obtain ⟨j, rfl, hjk, q, hq⟩ := hrel
                have HQ := Lib.hid hq
                have HJK := Lib.hid hjk
                by_cases hj : j < m1
                · obtain ⟨ad1, y1, e1, _, hy1, a1⟩ := L1.int (i := j) (by rw [← HM1.out]; exact hj)
                  obtain ⟨ad2, y2, e2, _, hy2, a2⟩ := L2.int (i := j) (by rw [← HM1.out]; exact hj)
                  injection e1 with e1
                  subst e1
                  injection e2 with e2
                  subst e2
                  rw [hy1] at hy2
                  injection hy2 with hy2
                  subst hy2
                  rw [add_lit0] at a1 a2
                  have a1' : wr.cell? ⟨g1, j, none⟩ = some (.int .i64 y1) := by rw [hq]; exact a1
                  have a2' : wr.cell? ⟨g', j, none⟩ = some (.int .i64 y1) := by rw [hq]; exact a2
                  have HY := Lib.hid hy1
                  clear a1 a2 hq hjk hy1
                  have hjm : (j : Int) < (m1 : Int) := by omega
                  go_wp2_with fail
                  go_quiet (fail)
                  go_wp2_with fail
                  go_roundg (gk - 1)
                  case measure => have := HJK.out; omega
                  case rel => exact ⟨j + 1, by go_num, by have := HJK.out; omega, _, by rw [HQ.out]; exact drewN_two _ _ _⟩
                · have hbe : Below w.heap.size w wr := by rw [hq]; exact below_drewN hb6 q
                  clear hjk hq
                  go_wp2_with fail
                  go_ret
                  exact ⟨rfl, hbe⟩

theorem joins_law (A0 A1 : Option Addr) (k0 k1 c0 c1 : Nat) (xs ys : List Int) (w : World) (hk0 : xs.length = k0) (hc0 : k0 ≤ c0) (hm0 : c0 ≤ maxLen) (hA0 : Lies w w.heap.size A0 (ints xs))
    (hk1 : ys.length = k1) (hc1 : k1 ≤ c1) (hm1 : c1 ≤ maxLen) (hA1 : Lies w w.heap.size A1 (ints ys)) :
    Calls Try.prog 13 #[.slice A0 k0 c0, .slice A1 k1 c1] w fun e w' => e = .returned (.bool true) ∧ Below w.heap.size w w' := by
  simp only [maxLen] at hm0 hm1
  exact joins_walk A0 A1 k0 k1 c0 c1 xs ys w hk0.symm hk1.symm hA0 hA1 (by omega) (by omega)
end Go.Proofs.Ytgaicojidomenaa.W
