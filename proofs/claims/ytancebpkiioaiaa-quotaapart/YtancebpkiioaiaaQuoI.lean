/- The law QuotaApart: its walk. -/
import Derived.Test.YtancebpkiioaiaaQuoH
import Derived.Test.YtancebpkiioaiaaActs
namespace Go.Proofs.Ytancebpkiioaiaa.W
open Go.RowKit

def AI : Nat → Int → Option Nat
  | 0 => noA
  | 1 => updZ noA 0 (some 5)
  | _ => updZ (updZ noA 0 (some 5)) 1 (some 5)
def FF (b0 b1 : Nat) : Int → Option Fn := updZ (updZ noF 0 (some (0, 0, b0))) 1 (some (1, 0, b1))
def FI : Nat → Int → Option Fn
  | 0 => noF
  | 1 => updZ noF 0 (some (0, 0, 0))
  | _ => FF 0 0
theorem stepI {i : Nat} (h : i < 2) : accC (FI i) (i : Int) 5 = 0 ∧ accA (AI i) (FI i) (i : Int) 5 = AI (i + 1) ∧ funC (AI (i + 1)) (FI i) (i : Int) (i : Int) 0 = 0 ∧ funF (AI (i + 1)) (FI i) (i : Int) (i : Int) 0 = FI (i + 1) := by
  rcases (show i = 0 ∨ i = 1 by omega) with rfl | rfl
  · have h1 : accC (FI 0) ((0 : Nat) : Int) 5 = 0 := by decide +kernel
    have h2 : funC (AI 1) (FI 0) ((0 : Nat) : Int) ((0 : Nat) : Int) 0 = 0 := by decide +kernel
    exact ⟨h1, accA_yes (n := 5) h1, h2, funF_yes (n := 0) h2⟩
  · have h1 : accC (FI 1) ((1 : Nat) : Int) 5 = 0 := by decide +kernel
    have h2 : funC (AI 2) (FI 1) ((1 : Nat) : Int) ((1 : Nat) : Int) 0 = 0 := by decide +kernel
    refine ⟨h1, accA_yes (n := 5) h1, h2, ?_⟩
    have h3 := funF_yes (n := 0) h2
    rw [show busy (FI 1) ((1 : Nat) : Int) = 0 by decide +kernel] at h3
    exact h3
theorem FF_0 (b0 b1 : Nat) : FF b0 b1 0 = some (0, 0, b0) := by unfold FF; rw [updZ_ne _ _ (by decide)]; exact updZ_same _ _ _
theorem FF_1 (b0 b1 : Nat) : FF b0 b1 1 = some (1, 0, b1) := updZ_same _ _ _
theorem FF_set0 (b0 b1 c : Nat) : updZ (FF b0 b1) 0 (some (0, 0, c)) = FF c b1 := by
  funext y; unfold FF
  by_cases e0 : y = 0
  · subst e0; rw [updZ_same, updZ_ne _ _ (by decide), updZ_same]
  · rw [updZ_ne _ _ e0]
    by_cases e1 : y = 1
    · subst e1; rw [updZ_same, updZ_same]
    · rw [updZ_ne _ _ e1, updZ_ne _ _ e1, updZ_ne _ _ e0, updZ_ne _ _ e0]
theorem FF_set1 (b0 b1 c : Nat) : updZ (FF b0 b1) 1 (some (1, 0, c)) = FF b0 c := updZ_two _ _ _ _
theorem FF_ne0 (b0 b1 : Nat) : ∀ j : Nat, j ≠ 0 → ∀ o' r' b', FF b0 b1 (j : Int) = some (o', r', b') → o' ≠ 0 := by
  intro j hj o' r' b' h
  by_cases e : j = 1
  · subst e; rw [show ((1 : Nat) : Int) = 1 from rfl, FF_1] at h; cases h; decide
  · unfold FF at h; rw [updZ_ne _ _ (by omega), updZ_ne _ _ (by omega)] at h; cases h
theorem FF_ne1 (b0 b1 : Nat) : ∀ j : Nat, j ≠ 1 → ∀ o' r' b', FF b0 b1 (j : Int) = some (o', r', b') → o' ≠ 1 := by
  intro j hj o' r' b' h
  by_cases e : j = 0
  · subst e; rw [show ((0 : Nat) : Int) = 0 from rfl, FF_0] at h; cases h; decide
  · unfold FF at h; rw [updZ_ne _ _ (by omega), updZ_ne _ _ (by omega)] at h; cases h
theorem FF_may0 (b0 b1 : Nat) : mayB (AI 2) (FF b0 b1) 0 = decide (b0 < 5) := may_one (f := 0) (o := 0) (by decide) (FF_0 b0 b1) (FF_ne0 b0 b1) rfl
theorem FF_may1 (b0 b1 : Nat) : mayB (AI 2) (FF b0 b1) 1 = decide (b1 < 5) := may_one (f := 1) (o := 1) (by decide) (FF_1 b0 b1) (FF_ne1 b0 b1) rfl
theorem FF_beg0 (b0 b1 : Nat) : begF (AI 2) (FF b0 b1) 0 = FF (if b0 < 5 then b0 + 1 else b0) b1 := by
  by_cases h : b0 < 5
  · rw [begF_yes (by rw [FF_may0]; simpa using h) (FF_0 b0 b1), if_pos h, FF_set0]
  · rw [begF_no (by rw [FF_may0]; simpa using h), if_neg h]
theorem FF_beg1 (b0 b1 : Nat) : begF (AI 2) (FF b0 b1) 1 = FF b0 (if b1 < 5 then b1 + 1 else b1) := by
  by_cases h : b1 < 5
  · rw [begF_yes (by rw [FF_may1]; simpa using h) (FF_1 b0 b1), if_pos h, FF_set1]
  · rw [begF_no (by rw [FF_may1]; simpa using h), if_neg h]
theorem FF_end0 (b0 b1 : Nat) : endF (FF b0 b1) 0 = FF (b0 - 1) b1 := by
  cases b0 with
  | zero => exact endF_no (busy_some (FF_0 0 b1))
  | succ n => rw [endF_yes (FF_0 (n + 1) b1), FF_set0]; rfl
theorem FF_end1 (b0 b1 : Nat) : endF (FF b0 b1) 1 = FF b0 (b1 - 1) := by
  cases b1 with
  | zero => exact endF_no (busy_some (FF_1 b0 0))
  | succ n => rw [endF_yes (FF_1 b0 (n + 1)), FF_set1]; rfl
theorem FF_busy0 (b0 b1 : Nat) : busy (FF b0 b1) 0 = b0 := busy_some (FF_0 b0 b1)
theorem FF_busy1 (b0 b1 : Nat) : busy (FF b0 b1) 1 = b1 := busy_some (FF_1 b0 b1)

set_option maxRecDepth 100000 in
set_option maxHeartbeats 3200000 in
theorem apart_walk (a0 : Option Addr) (k cap : Nat) (Z : Nat → Int) (_hc : k ≤ cap) (w : World) (L : Lies w w.heap.size a0 (zs Z (k * 4))) :
    Calls Try.prog 11 #[.slice a0 k cap] w fun e w' => e = .returned (.bool true) ∧ Below w.heap.size w w' := by
  by_cases hk : 100 < k
  · have hki : decide ((100 : Int) < (k : Int)) = true := by simp; omega
    go_enter Try.func11, Try.ntmps11
    go_wp2_with fail
    refine (head11 _).mono ?_
    rintro e w1 ⟨rfl, b1⟩
    go_wp2_with fail
    go_ret
    exact ⟨rfl, b1⟩
  · have hki : decide ((100 : Int) < (k : Int)) = false := by simp; omega
    go_enter Try.func11, Try.ntmps11
    go_wp2_with fail
    refine (head11 _).mono ?_
    rintro e w1 ⟨rfl, b1⟩
    go_wp2_with fail
    refine (l_new w1).mono ?_
    rintro e w2 ⟨rfl, h2, b2⟩
    obtain ⟨l, hl⟩ : ∃ l, w1.heap.size = l := ⟨_, rfl⟩
    have bb2 := b1.trans (b2.mono b1.size)
    have hll : w.heap.size ≤ l := by rw [← hl]; exact b1.size
    rw [hl] at h2
    rw [hl]
    clear hl b1 b2
    go_wp2_with fail
    refine (l_new w2).mono ?_
    rintro e w3 ⟨rfl, h3, b3⟩
    have hlm : l ≠ w2.heap.size := by have := h2.lt; omega
    have h2' := h2.keep b3 h2.lt
    obtain ⟨m, hm⟩ : ∃ m, w2.heap.size = m := ⟨_, rfl⟩
    have bb3 := bb2.trans (b3.mono bb2.size)
    have hlm2 : w.heap.size ≤ m := by rw [← hm]; exact bb2.size
    rw [hm] at h3 hlm
    rw [hm]
    clear hm b3 bb2 h2
    go_wp2_with fail
    clear hki
    go_loopg [5] 2 (fun gk vi wr => ∃ i : Nat, vi = .int .i64 (i : Int) ∧ i + gk = 2 ∧ Lg wr l (AI i) (FI i) ∧ Lg wr m (AI i) (FI i) ∧ Below w.heap.size w wr)
    case atStart => exact ⟨0, rfl, rfl, h2', h3, bb3⟩
    case round =>
      clear h2' h3 bb3
      obtain ⟨i, rfl, hik, hz, hy, bz⟩ := hrel
      have HIK := Lib.hid hik
      by_cases hi : i < 2
      · have hii : (i : Int) < 2 := by omega
        have ST := Lib.hid (stepI hi)
        clear hik hi
        go_wp2_with fail
        refine (l_setA l _ _ (i : Int) 5 _ hz).mono ?_
        rintro e w4 ⟨rfl, h4, g4⟩
        rw [ST.out.2.1] at h4
        have y4 := hy.off g4 (Ne.symm hlm)
        have b4 := below_row bz hll g4 bz.size
        clear hz hy bz g4
        go_wp2_with fail
        refine (l_setA m _ _ (i : Int) 5 _ y4).mono ?_
        rintro e w5 ⟨rfl, y5, g5⟩
        rw [ST.out.2.1] at y5
        have h5 := h4.off g5 hlm
        have b5 := below_row b4 hlm2 g5 b4.size
        clear h4 y4 b4 g5
        go_wp2_with fail
        refine (l_setF l _ _ (i : Int) (i : Int) 0 _ h5).mono ?_
        rintro e w6 ⟨rfl, h6, g6⟩
        rw [ST.out.2.2.2] at h6
        have y6 := y5.off g6 (Ne.symm hlm)
        have b6 := below_row b5 hll g6 b5.size
        clear h5 y5 b5 g6
        go_wp2_with fail
        refine (l_setF m _ _ (i : Int) (i : Int) 0 _ y6).mono ?_
        rintro e w7 ⟨rfl, y7, g7⟩
        rw [ST.out.2.2.2] at y7
        have h7 := h6.off g7 hlm
        have b7 := below_row b6 hlm2 g7 b6.size
        clear h6 y6 b6 g7
        go_wp2_with fail
        go_roundg (gk - 1)
        case measure => have := HIK.out; omega
        case rel => exact ⟨i + 1, by go_num, by have := HIK.out; omega, h7, y7, b7⟩
      · obtain rfl : i = 2 := by omega
        clear hik HIK hi
        go_wp2_with fail
        go_loopg [37] k (fun gk vi wr => ∃ i b0 b1 : Nat, vi = .int .i64 (i : Int) ∧ i + gk = k ∧ Lg wr l (AI 2) (FF b0 b1) ∧ Lg wr m (AI 2) (FF 0 b1) ∧ Below w.heap.size w wr)
        case atStart => exact ⟨0, 0, 0, rfl, by omega, hz, hy, bz⟩
        case round =>
          clear hz hy bz
          obtain ⟨i, b0, b1, rfl, hik, hz, hy, bz⟩ := hrel
          have HIK := Lib.hid hik
          by_cases hi : i < k
          · obtain ⟨ad, hA, hadb, hcell⟩ := (L.below bz (Nat.le_refl _)).num (j := i * 4) (by omega)
            have hii : (i : Int) < (k : Int) := by omega
            have x0 := hcell (i * 4) (by omega)
            have x1 := cell_in (c := 0) (hcell (i * 4 + 1) (by omega))
            have x2 := cell_in (c := 1) (hcell (i * 4 + 2) (by omega))
            have x3 := cell_in (c := 2) (hcell (i * 4 + 3) (by omega))
            rw [Nat.zero_add] at x1
            rw [show (1 : Nat) + 1 = 2 from rfl] at x2
            rw [show (2 : Nat) + 1 = 3 from rfl] at x3
            obtain ⟨z0, hz0⟩ : ∃ z, Z (i * 4) = z := ⟨_, rfl⟩
            obtain ⟨z1, hz1⟩ : ∃ z, Z (i * 4 + 1) = z := ⟨_, rfl⟩
            obtain ⟨z2, hz2⟩ : ∃ z, Z (i * 4 + 2) = z := ⟨_, rfl⟩
            obtain ⟨z3, hz3⟩ : ∃ z, Z (i * 4 + 3) = z := ⟨_, rfl⟩
            rw [hz0] at x0
            rw [hz1] at x1
            rw [hz2] at x2
            rw [hz3] at x3
            subst hA
            clear hcell hik hz0 hz1 hz2 hz3
            obtain ⟨kd, hkd, hkd2⟩ := and_nat z0 1 1 2 (by decide) (by decide) (by decide)
            obtain ⟨f, hf, hf2⟩ := and_nat z1 1 1 2 (by decide) (by decide) (by decide)
            have hb0 : Below wr.heap.size wr (wr.alloc (.cells #[.int .i64 z0, .int .i64 z1, .int .i64 z2, .int .i64 z3] 42)) := (Below.refl _ _).alloc (Nat.le_refl _) _
            have bx := bz.trans (hb0.mono bz.size)
            have h4 := hz.keep hb0 hz.lt
            have y4 := hy.keep hb0 hy.lt
            have HQ := Lib.hid (heap_alloc_new wr (.cells #[.int .i64 z0, .int .i64 z1, .int .i64 z2, .int .i64 z3] 42))
            have hql : wr.heap.size ≠ l := by have := hz.lt; omega
            have hqm : wr.heap.size ≠ m := by have := hy.lt; omega
            go_upto_region 17 with (fail)
            obtain ⟨qa, hqa⟩ : ∃ q, wr.heap.size = q := ⟨_, rfl⟩
            rw [hqa] at HQ hql hqm
            rw [hqa]
            clear hb0 hqa x0 x1 x2 x3 hz hy bz
            generalize wr.alloc (.cells #[.int .i64 z0, .int .i64 z1, .int .i64 z2, .int .i64 z3] 42) = w4 at h4 y4 bx HQ ⊢
            have v0 := cell_of_row _ _ 0 _ _ _ HQ.out
            have v1 := cell_of_row _ _ 1 _ _ _ HQ.out
            rcases (show kd = 0 ∨ kd = 1 by omega) with rfl | rfl
            · rcases (show f = 0 ∨ f = 1 by omega) with rfl | rfl
              · go_wp2_with fail
                refine (l_begin l _ _ 0 _ h4).mono ?_
                rintro e w5 ⟨rfl, h5, g5⟩
                rw [FF_beg0] at h5
                rw [FF_may0]
                have y5 := y4.off g5 (Ne.symm hlm)
                have b5 := below_row bx hll g5 bx.size
                have HQ5 := Lib.hid (row_kept HQ.out g5 hql)
                clear v0 v1 h4 y4 bx g5
                have v0 := cell_of_row _ _ 0 _ _ _ HQ5.out
                have v1 := cell_of_row _ _ 1 _ _ _ HQ5.out
                obtain ⟨d, hd⟩ : ∃ d, decide (b0 < 5) = d := ⟨_, rfl⟩
                rw [hd]
                cases d with
                | true =>
                  clear hd
                  go_wp2_with fail
                  go_roundg (gk - 1)
                  case measure => have := HIK.out; omega
                  case rel => exact ⟨i + 1, if b0 < 5 then b0 + 1 else b0, b1, by go_num, by have := HIK.out; omega, h5, y5, b5⟩
                | false =>
                  clear hd
                  go_wp2_with fail
                  go_roundg (gk - 1)
                  case measure => have := HIK.out; omega
                  case rel => exact ⟨i + 1, if b0 < 5 then b0 + 1 else b0, b1, by go_num, by have := HIK.out; omega, h5, y5, b5⟩
              · go_wp2_with fail
                refine (l_begin l _ _ 1 _ h4).mono ?_
                rintro e w5 ⟨rfl, h5, g5⟩
                rw [FF_beg1] at h5
                rw [FF_may1]
                have y5 := y4.off g5 (Ne.symm hlm)
                have b5 := below_row bx hll g5 bx.size
                have HQ5 := Lib.hid (row_kept HQ.out g5 hql)
                clear v0 v1 h4 y4 bx g5
                have v0 := cell_of_row _ _ 0 _ _ _ HQ5.out
                have v1 := cell_of_row _ _ 1 _ _ _ HQ5.out
                obtain ⟨d, hd⟩ : ∃ d, decide (b1 < 5) = d := ⟨_, rfl⟩
                rw [hd]
                cases d with
                | true =>
                  have HDD := Lib.hid hd
                  clear hd
                  go_wp2_with fail
                  refine (l_begin m _ _ 1 _ y5).mono ?_
                  rintro e w6 ⟨rfl, y6, g6⟩
                  rw [FF_beg1] at y6
                  rw [FF_may1, HDD.out]
                  have h6 := h5.off g6 hlm
                  have b6 := below_row b5 hlm2 g6 b5.size
                  have HQ6 := Lib.hid (row_kept HQ5.out g6 hqm)
                  clear v0 v1 h5 y5 b5 g6
                  have v0 := cell_of_row _ _ 0 _ _ _ HQ6.out
                  have v1 := cell_of_row _ _ 1 _ _ _ HQ6.out
                  go_wp2_with fail
                  go_roundg (gk - 1)
                  case measure => have := HIK.out; omega
                  case rel => exact ⟨i + 1, b0, if b1 < 5 then b1 + 1 else b1, by go_num, by have := HIK.out; omega, h6, y6, b6⟩
                | false =>
                  have HDD := Lib.hid hd
                  clear hd
                  go_wp2_with fail
                  refine (l_begin m _ _ 1 _ y5).mono ?_
                  rintro e w6 ⟨rfl, y6, g6⟩
                  rw [FF_beg1] at y6
                  rw [FF_may1, HDD.out]
                  have h6 := h5.off g6 hlm
                  have b6 := below_row b5 hlm2 g6 b5.size
                  have HQ6 := Lib.hid (row_kept HQ5.out g6 hqm)
                  clear v0 v1 h5 y5 b5 g6
                  have v0 := cell_of_row _ _ 0 _ _ _ HQ6.out
                  have v1 := cell_of_row _ _ 1 _ _ _ HQ6.out
                  go_wp2_with fail
                  go_roundg (gk - 1)
                  case measure => have := HIK.out; omega
                  case rel => exact ⟨i + 1, b0, if b1 < 5 then b1 + 1 else b1, by go_num, by have := HIK.out; omega, h6, y6, b6⟩
            · rcases (show f = 0 ∨ f = 1 by omega) with rfl | rfl
              · go_wp2_with fail
                refine (l_end l _ _ 0 _ h4).mono ?_
                rintro e w5 ⟨rfl, h5, g5⟩
                rw [FF_end0] at h5
                rw [FF_busy0]
                have y5 := y4.off g5 (Ne.symm hlm)
                have b5 := below_row bx hll g5 bx.size
                have HQ5 := Lib.hid (row_kept HQ.out g5 hql)
                clear v0 v1 h4 y4 bx g5
                have v0 := cell_of_row _ _ 0 _ _ _ HQ5.out
                have v1 := cell_of_row _ _ 1 _ _ _ HQ5.out
                obtain ⟨d, hd⟩ : ∃ d, decide (0 < b0) = d := ⟨_, rfl⟩
                rw [hd]
                cases d with
                | true =>
                  clear hd
                  go_wp2_with fail
                  go_roundg (gk - 1)
                  case measure => have := HIK.out; omega
                  case rel => exact ⟨i + 1, b0 - 1, b1, by go_num, by have := HIK.out; omega, h5, y5, b5⟩
                | false =>
                  clear hd
                  go_wp2_with fail
                  go_roundg (gk - 1)
                  case measure => have := HIK.out; omega
                  case rel => exact ⟨i + 1, b0 - 1, b1, by go_num, by have := HIK.out; omega, h5, y5, b5⟩
              · go_wp2_with fail
                refine (l_end l _ _ 1 _ h4).mono ?_
                rintro e w5 ⟨rfl, h5, g5⟩
                rw [FF_end1] at h5
                rw [FF_busy1]
                have y5 := y4.off g5 (Ne.symm hlm)
                have b5 := below_row bx hll g5 bx.size
                have HQ5 := Lib.hid (row_kept HQ.out g5 hql)
                clear v0 v1 h4 y4 bx g5
                have v0 := cell_of_row _ _ 0 _ _ _ HQ5.out
                have v1 := cell_of_row _ _ 1 _ _ _ HQ5.out
                obtain ⟨d, hd⟩ : ∃ d, decide (0 < b1) = d := ⟨_, rfl⟩
                rw [hd]
                cases d with
                | true =>
                  have HDD := Lib.hid hd
                  clear hd
                  go_wp2_with fail
                  refine (l_end m _ _ 1 _ y5).mono ?_
                  rintro e w6 ⟨rfl, y6, g6⟩
                  rw [FF_end1] at y6
                  rw [FF_busy1, HDD.out]
                  have h6 := h5.off g6 hlm
                  have b6 := below_row b5 hlm2 g6 b5.size
                  have HQ6 := Lib.hid (row_kept HQ5.out g6 hqm)
                  clear v0 v1 h5 y5 b5 g6
                  have v0 := cell_of_row _ _ 0 _ _ _ HQ6.out
                  have v1 := cell_of_row _ _ 1 _ _ _ HQ6.out
                  go_wp2_with fail
                  go_roundg (gk - 1)
                  case measure => have := HIK.out; omega
                  case rel => exact ⟨i + 1, b0, b1 - 1, by go_num, by have := HIK.out; omega, h6, y6, b6⟩
                | false =>
                  have HDD := Lib.hid hd
                  clear hd
                  go_wp2_with fail
                  refine (l_end m _ _ 1 _ y5).mono ?_
                  rintro e w6 ⟨rfl, y6, g6⟩
                  rw [FF_end1] at y6
                  rw [FF_busy1, HDD.out]
                  have h6 := h5.off g6 hlm
                  have b6 := below_row b5 hlm2 g6 b5.size
                  have HQ6 := Lib.hid (row_kept HQ5.out g6 hqm)
                  clear v0 v1 h5 y5 b5 g6
                  have v0 := cell_of_row _ _ 0 _ _ _ HQ6.out
                  have v1 := cell_of_row _ _ 1 _ _ _ HQ6.out
                  go_wp2_with fail
                  go_roundg (gk - 1)
                  case measure => have := HIK.out; omega
                  case rel => exact ⟨i + 1, b0, b1 - 1, by go_num, by have := HIK.out; omega, h6, y6, b6⟩
          · obtain rfl : i = k := by omega
            clear hik HIK hi
            go_wp2_with fail
            refine (l_busy l _ _ 1 _ hz).mono ?_
            rintro e w3 ⟨rfl, rfl⟩
            rw [FF_busy1]
            go_wp2_with fail
            refine (l_busy m _ _ 1 _ hy).mono ?_
            rintro e w3 ⟨rfl, rfl⟩
            rw [FF_busy1]
            go_wp2_with fail
            refine (l_busy m _ _ 0 _ hy).mono ?_
            rintro e w3 ⟨rfl, rfl⟩
            rw [FF_busy0]
            go_wp2_with fail
            go_ret
            exact ⟨rfl, bz⟩

end Go.Proofs.Ytancebpkiioaiaa.W
