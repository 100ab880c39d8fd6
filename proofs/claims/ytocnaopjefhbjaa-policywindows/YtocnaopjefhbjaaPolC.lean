/- The law PolicyWindows: its walk. -/
import Derived.Test.YtocnaopjefhbjaaPolB
import Derived.Test.YtocnaopjefhbjaaHistoN
import Derived.Deep.RegionHeld3
namespace Go.Proofs.Ytocnaopjefhbjaa.W
open Go.RowKit
set_option linter.unusedVariables false

/-- A window's block that is read while others are made. -/
theorem keep_win {g : Nat} {w6 w1 w2 : World} {h p e : Int} (hS : w1.cell? ⟨g, 0, none⟩ = some (.int .i64 h) ∧ w1.cell? ⟨g, 1, none⟩ = some (.int .i64 p) ∧ w1.cell? ⟨g, 2, none⟩ = some (.int .i64 e) ∧ Below w6.heap.size w6 w1) (hb : Below w1.heap.size w1 w2) :
    w2.cell? ⟨g, 0, none⟩ = some (.int .i64 h) ∧ w2.cell? ⟨g, 1, none⟩ = some (.int .i64 p) ∧ w2.cell? ⟨g, 2, none⟩ = some (.int .i64 e) ∧ Below w6.heap.size w6 w2 := by
  obtain ⟨a, b, c, d⟩ := hS
  have hl : g < w1.heap.size := cell_lt a
  exact ⟨by rw [hb.cell hl]; exact a, by rw [hb.cell hl]; exact b, by rw [hb.cell hl]; exact c, d.trans (hb.mono d.size)⟩
theorem below_held {g : Nat} {w6 w1 : World} {h p e : Int} (hS : w1.cell? ⟨g, 0, none⟩ = some (.int .i64 h) ∧ w1.cell? ⟨g, 1, none⟩ = some (.int .i64 p) ∧ w1.cell? ⟨g, 2, none⟩ = some (.int .i64 e) ∧ Below w6.heap.size w6 w1) : Below w6.heap.size w6 w1 := hS.2.2.2

set_option maxRecDepth 100000 in
set_option maxHeartbeats 3200000 in
theorem windows_walk (A : Option Addr) (k c : Nat) (xs : List Int) (w : World) (hk : k = xs.length) (hc : k ≤ c) (hA : Lies w w.heap.size A (ints xs)) (hm : k ≤ 9223372036854775807) :
    Calls Try.prog 3 #[.slice A k c] w fun e w' => e = .returned (.bool true) ∧ Below w.heap.size w w' := by
  have HK := Lib.hid hk
  clear hk
  by_cases h60 : 60 < k
  · go_enter Try.func3, Try.ntmps3
    go_wp2_with fail
    refine (pol_head _).mono ?_
    rintro e w1 ⟨rfl, hb1⟩
    go_wp2_with fail
    go_ret
    exact ⟨rfl, hb1⟩
  clear hm
  obtain ⟨C, hC⟩ : ∃ C, (List.replicate 241 (Value.int .i64 0)).toArray = C := ⟨_, rfl⟩
  have HC := Lib.hid hC
  clear hC
  go_enter Try.func3, Try.ntmps3
  go_wp2_with fail
  refine (pol_head _).mono ?_
  rintro e w1 ⟨rfl, hb1⟩
  go_wp2_with fail
  refine (list_new _).mono ?_
  rintro e w2 ⟨rfl, hR2, hb2⟩
  obtain ⟨r, hr⟩ : ∃ r, w1.heap.size = r := ⟨_, rfl⟩
  have hrw : w.heap.size ≤ r := by rw [← hr]; exact hb1.size
  have hb3 := hb1.trans (hb2.mono hb1.size)
  rw [hr] at hR2 ⊢
  clear hb1 hb2 hr
  go_wp2_with fail
  refine (ring_new _).mono ?_
  rintro e w3 ⟨rfl, hS3, hb4⟩
  obtain ⟨s, hs⟩ : ∃ s, w2.heap.size = s := ⟨_, rfl⟩
  have hsw : w.heap.size ≤ s := by rw [← hs]; exact hb3.size
  have hrs : r ≠ s := by have := hR2.lt; omega
  have hR3 := hR2.keep hb4 hR2.lt
  have hb5 := hb3.trans (hb4.mono hb3.size)
  rw [hs] at hS3 ⊢
  clear hb3 hb4 hR2 hs
  go_wp2_with (first
    | (with_reducible refine wpList_build_zero rfl 31 rfl C (by rw [← HC.out]; exact built_model) ?_)
    | (with_reducible refine wpList_box_agg rfl 31 (.tmp 16) rfl C rfl ?_))
  obtain ⟨t, ht⟩ : ∃ t, w3.heap.size = t := ⟨_, rfl⟩
  have htw : w.heap.size ≤ t := by rw [← ht]; exact hb5.size
  have hrt : r ≠ t := by have := hR3.lt; omega
  have hst : s ≠ t := by have := hS3.lt; omega
  have hM4 : Md (w3.alloc (.cells C 31)) t (cnt []) (cntO []) := ⟨by rw [cnt_nil, cntO_nil, tot, sumTo_zero]; omega, by rw [← ht, heap_alloc_new, ← HC.out, model_zero, cnt_nil, cntO_nil]⟩
  have hb6 : Below w3.heap.size w3 (w3.alloc (.cells C 31)) := (Below.refl _ _).alloc (Nat.le_refl _) _
  have hR4 := hR3.keep hb6 hR3.lt
  have hS4 := hS3.keep hb6 hS3.lt
  have hb7 := hb5.trans (hb6.mono hb5.size)
  rw [ht]
  generalize w3.alloc (.cells C 31) = w4 at hM4 hR4 hS4 hb7 ⊢
  clear hb5 hb6 hR3 hS3 ht HC
  go_loopg [20] k (fun gk vi wr => ∃ i : Nat, vi = .int .i64 (i : Int) ∧ i + gk = k ∧ Hl wr r (xs.take i) ∧ Rg wr s (last8 (xs.take i)) ∧ Md wr t (cnt (xs.take i)) (cntO (xs.take i)) ∧ Below w.heap.size w wr)
  case atStart => exact ⟨0, rfl, by omega, hR4, hS4, hM4, hb7⟩
  case round =>
    obtain ⟨i, rfl, hik, hRz, hSz, hMz, hbz⟩ := hrel
    have HIK := Lib.hid hik
    clear hR4 hS4 hM4 hb7
    by_cases hi : i < k
    · obtain ⟨ad, x, rfl, hblk, hx, hcx⟩ := hA.int (show i < xs.length by rw [← HK.out]; exact hi)
      have hcx' : wr.cell? (ad.add i) = some (.int .i64 x) := by rw [hbz.cell (by rw [blk_add]; exact hblk)]; exact hcx
      have HX := Lib.hid hx
      clear hik hcx hx
      go_wp2_with fail
      refine (list_add r x _ _ hRz (by simp; omega)).mono ?_
      rintro e w5 ⟨rfl, hR5, hg5⟩
      rw [← take_snoc HX.out] at hR5
      have hb5 := below_row hbz hrw hg5 hbz.size
      have hS5 := hSz.off hg5 hrs.symm
      have hM5 := hMz.off hg5 hrt.symm
      clear hcx' hRz hSz hMz hbz hg5
      go_wp2_with fail
      refine (ring_push s _ x _ hS5).mono ?_
      rintro e w6 ⟨rfl, hS6, hg6⟩
      rw [last8_last, ← take_snoc HX.out] at hS6
      have hb6 := below_row hb5 hsw hg6 hb5.size
      have hR6 := hR5.off hg6 hrs
      have hM6 := hM5.off hg6 hst.symm
      clear hR5 hS5 hM5 hb5 hg6
      go_wp2_with fail
      refine (model_add t _ x _ _ hM6 (by have := tot_le (xs.take i); simp at this; omega)).mono ?_
      rintro e w7 ⟨rfl, hM7, hg7⟩
      rw [← cnt_snoc, ← cntO_snoc, ← take_snoc HX.out] at hM7
      have hb7 := below_row hb6 htw hg7 hb6.size
      have hR7 := hR6.off hg7 hrt
      have hS7 := hS6.off hg7 hst
      clear hR6 hS6 hM6 hb6 hg7
      have hA7 := (hA.below hb7 (Nat.le_refl _)).take (i + 1)
      rw [← List.map_take] at hA7
      have hlen : i + 1 = (xs.take (i + 1)).length := by rw [List.length_take, ← HK.out]; omega
      have HLEN := Lib.hid hlen
      clear hlen
      obtain ⟨zs, hzs⟩ : ∃ zs, xs.take (i + 1) = zs := ⟨_, rfl⟩
      rw [hzs] at hR7 hS7 hM7 hA7 HLEN
      have HZS := Lib.hid hzs
      clear hzs
      go_wp2_with fail
      refine (of_any r s _ _ _ _ hR7 hS7).mono ?_
      rintro e w8 ⟨rfl, hb8⟩
      obtain ⟨h, p, en, hwin, hp0, hpe, hpm⟩ := win_form (cnt zs) (cntO zs) (last8 zs)
      have HWIN := Lib.hid hwin
      rw [hwin]
      clear hwin
      have hR8 := hR7.keep hb8 hR7.lt
      have hS8 := hS7.keep hb8 hS7.lt
      have hM8 := hM7.keep hb8 hM7.lt
      have hA8 := hA7.below hb8 hb7.size
      have hb9 := hb7.trans (hb8.mono hb7.size)
      clear hR7 hS7 hM7 hA7 hb7 hb8
      have hi1 : (i : Int) + 1 ≤ (c : Int) := by omega
      have hd1 : decide (p < 0) = false := by simp; omega
      have hd2 : decide (en ≤ p) = false := by simp; omega
      have hwr : IntKind.i64.wrap ((i : Int) + 1) = (i : Int) + 1 := wrap_small (by omega) (by omega)
      have hi0 : (0 : Int) ≤ (i : Int) + 1 := by omega
      have hi60 : i + 1 ≤ 1000000 := by omega
      have hic : i + 1 ≤ c := by omega
      go_wp2_with fail
      have hb10 : Below w8.heap.size w8 (w8.alloc (.cells #[.int .i64 h, .int .i64 p, .int .i64 en] 35)) := (Below.refl _ _).alloc (Nat.le_refl _) _
      have hN := heap_alloc_new w8 (.cells #[.int .i64 h, .int .i64 p, .int .i64 en] 35)
      have hB8 := hb9.size
      obtain ⟨g, hg⟩ : ∃ g, w8.heap.size = g := ⟨_, rfl⟩
      have hR9 := hR8.keep hb10 hR8.lt
      have hS9 := hS8.keep hb10 hS8.lt
      have hM9 := hM8.keep hb10 hM8.lt
      have hA9 := hA8.below hb10 hB8
      have hb11 := hb9.trans (hb10.mono hB8)
      rw [hg] at hN ⊢
      generalize w8.alloc (.cells #[.int .i64 h, .int .i64 p, .int .i64 en] 35) = w9 at hN hR9 hS9 hM9 hA9 hb11 ⊢
      have k0 : w9.cell? ⟨g, 0, none⟩ = some (.int .i64 h) := by rw [cell_of_row w9 g 0 _ _ _ hN]; rfl
      have k1 : w9.cell? ⟨g, 1, none⟩ = some (.int .i64 p) := by rw [cell_of_row w9 g 1 _ _ _ hN]; rfl
      have k2 : w9.cell? ⟨g, 2, none⟩ = some (.int .i64 en) := by rw [cell_of_row w9 g 2 _ _ _ hN]; rfl
      have hB9 := hb11.size
      clear hR8 hS8 hM8 hA8 hb9 hb10 hN hg hB8
      have HS0 := Lib.hid (show w9.drew.cell? ⟨g, 0, none⟩ = some (.int .i64 h) ∧ w9.drew.cell? ⟨g, 1, none⟩ = some (.int .i64 p) ∧ w9.drew.cell? ⟨g, 2, none⟩ = some (.int .i64 en) ∧ Below w9.heap.size w9 w9.drew from ⟨k0, k1, k2, below_drewN (Below.refl _ _) 1⟩)
      have HM9 := Lib.hid hM9
      have HA9 := Lib.hid hA9
      clear hM9 hA9
      go_region_held3 (fun w' => w'.cell? ⟨g, 0, none⟩ = some (.int .i64 h) ∧ w'.cell? ⟨g, 1, none⟩ = some (.int .i64 p) ∧ w'.cell? ⟨g, 2, none⟩ = some (.int .i64 en) ∧ Below w9.heap.size w9 w') (first | exact HS0.out | assumption | exact keep_win (by assumption) (by assumption))
        (first
          | (go_at_call 16; refine (last_any (some ad) (i + 1) c w.heap.size zs _ HLEN.out hic hi60 (HA9.out.below (below_held (by assumption)) hB9)).mono ?_; rintro e w' ⟨A4, m, c4, HM4, rfl, hA4, rfl⟩)
          | (go_at_call 15; refine (lawOf_any t _ w.heap.size m c4 A4 (cnt zs) (last8 zs) _ (HM9.out.keep (below_held (by assumption)) HM9.out.lt) HM4.out (by rw [HM4.out, last8_len]; omega) hA4 (Nat.le_trans hB9 (below_held (by assumption)).size)).mono ?_; rintro e w' ⟨rfl, hbw⟩; rw [HWIN.out]))
      have hbF : Below w9.heap.size w9 w' := below_held (by assumption)
      have hR10 := hR9.keep hbF hR9.lt
      have hS10 := hS9.keep hbF hS9.lt
      have hM10 := HM9.out.keep hbF HM9.out.lt
      have hb12 := hb11.trans (hbF.mono hB9)
      clear hR9 hS9 HM9 HA9 hb11 k0 k1 k2 HS0 hbw hA4
      go_wp2_with fail
      go_roundg (gk - 1)
      case measure => have := HIK.out; omega
      case rel => exact ⟨i + 1, by go_num, by have := HIK.out; omega, by rw [HZS.out]; exact hR10, by rw [HZS.out]; exact hS10, by rw [HZS.out]; exact hM10, hb12⟩
    · clear hik
      go_wp2_with fail
      go_ret
      exact ⟨rfl, hbz⟩

theorem windows_law (A : Option Addr) (k c : Nat) (xs : List Int) (w : World) (hk : xs.length = k) (hc : k ≤ c) (hm : c ≤ maxLen) (hA : Lies w w.heap.size A (ints xs)) :
    Calls Try.prog 3 #[.slice A k c] w fun e w' => e = .returned (.bool true) ∧ Below w.heap.size w w' := by
  simp only [maxLen] at hm
  exact windows_walk A k c xs w hk.symm hc hA (by omega)
end Go.Proofs.Ytocnaopjefhbjaa.W
