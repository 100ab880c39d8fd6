/- The law RingPushes: its walk. -/
import Derived.Test.YtgaicojidomenaaRingB
namespace Go.Proofs.Ytgaicojidomenaa.W
open Go.RowKit

theorem Lies.int {w : World} {B : Nat} {A : Option Addr} {xs : List Int} (h : Lies w B A (ints xs)) {i : Nat} (hi : i < xs.length) : ∃ ad x, A = some ad ∧ ad.block < B ∧ xs[i]? = some x ∧ w.cell? (ad.add i) = some (.int .i64 x) := by
  obtain ⟨ad, e, hb, hc⟩ := h.at_ (k := i) (by simpa using hi)
  exact ⟨ad, xs[i], e, hb, List.getElem?_eq_getElem hi, by simpa using hc⟩
theorem take_snoc {xs : List Int} {i : Nat} {x : Int} (h : xs[i]? = some x) : xs.take (i + 1) = xs.take i ++ [x] := by
  rw [List.take_add_one, h]; rfl

set_option maxRecDepth 100000 in
set_option maxHeartbeats 1600000 in
theorem pushes_walk (A : Option Addr) (k c : Nat) (xs : List Int) (w : World) (hk : k = xs.length) (hc : k ≤ c) (hA : Lies w w.heap.size A (ints xs)) (hm : k ≤ 9223372036854775807) :
    Calls Try.prog 10 #[.slice A k c] w fun e w' => e = .returned (.bool true) ∧ Below w.heap.size w w' := by
  have HK := Lib.hid hk
  clear hk
  by_cases h100 : 100 < k
  · go_enter Try.func10, Try.ntmps10
    go_wp2_with fail
    refine (ring_head _).mono ?_
    rintro e w1 ⟨rfl, hb1⟩
    go_wp2_with fail
    go_ret
    exact ⟨rfl, hb1⟩
  · clear hm
    go_enter Try.func10, Try.ntmps10
    go_wp2_with fail
    refine (ring_head _).mono ?_
    rintro e w1 ⟨rfl, hb1⟩
    go_wp2_with fail
    refine (ring_new _).mono ?_
    rintro e w2 ⟨rfl, hR2, hb2⟩
    obtain ⟨r, hr⟩ : ∃ r, w1.heap.size = r := ⟨_, rfl⟩
    have hb3 := hb1.trans (hb2.mono hb1.size)
    have hrw : w.heap.size ≤ r := by rw [← hr]; exact hb1.size
    rw [hr] at hR2 ⊢
    clear hb2 hb1 hr
    go_wp2_with fail
    go_loopg [17] k (fun gk vi wr => ∃ i : Nat, vi = .int .i64 (i : Int) ∧ i + gk = k ∧ Rg wr r (last8 (xs.take i)) ∧ Below w.heap.size w wr)
    case atStart => exact ⟨0, rfl, by omega, hR2, hb3⟩
    case round =>
      obtain ⟨i, rfl, hik, hRz, hbz⟩ := hrel
      have HIK := Lib.hid hik
      clear hR2 hb3
      by_cases hi : i < k
      · obtain ⟨ad, x, rfl, hblk, hx, hcx⟩ := hA.int (show i < xs.length by rw [← HK.out]; exact hi)
        have hcx' : wr.cell? (ad.add i) = some (.int .i64 x) := by rw [hbz.cell (by rw [blk_add]; exact hblk)]; exact hcx
        have HX := Lib.hid hx
        clear hik hcx hx
        go_wp2_with fail
        refine (ring_push r _ x _ hRz).mono ?_
        rintro e w3 ⟨rfl, hR3, hg3⟩
        rw [last8_last, ← take_snoc HX.out] at hR3
        have hb3 := below_row hbz hrw hg3 hbz.size
        have hA3 := (hA.below hb3 (Nat.le_refl _)).take (i + 1)
        rw [← List.map_take] at hA3
        clear hcx' hRz hbz hg3
        have hi1 : (i : Int) + 1 ≤ (c : Int) := by omega
        go_wp2_with fail
        refine (last_any (some ad) (i + 1) c w.heap.size (xs.take (i + 1)) _ (by rw [List.length_take, ← HK.out]; omega) (by omega) (by omega) hA3).mono ?_
        rintro e w4 ⟨A4, m, c4, HM, rfl, hA4, rfl⟩
        go_wp2_with fail
        refine (ring_list r _ _ hR3).mono ?_
        rintro e w5 ⟨g, cap, m', HM', rfl, own, hb5⟩
        obtain rfl : m = m' := HM.out.trans HM'.out.symm
        have hR5 := hR3.keep hb5 hR3.lt
        have hb6 := hb3.trans (hb5.mono hb3.size)
        have hA5 := hA4.below hb5 hb3.size
        clear hA3 hA4 hR3 hb3 hb5
        go_wp2_with fail
        refine (ring_len r _ m _ hR5 HM.out).mono ?_
        rintro e w6 ⟨rfl, rfl⟩
        go_wp2_with fail
        obtain ⟨B5, hB5⟩ : ∃ B, w5.heap.size = B := ⟨_, rfl⟩
        have LO := lies_own own
        have hm8 : m ≤ 8 := by rw [HM.out, last8_len]; omega
        clear own HM' hB5
        go_loopg [46] m (fun gk vi wr => ∃ j : Nat, vi = .int .i64 (j : Int) ∧ j + gk = m ∧ ∃ q, wr = w5.drewN q)
        case atStart => exact ⟨0, rfl, by omega, 0, rfl⟩
        case round =>
          obtain ⟨j, rfl, hjk, q, hq⟩ := hrel
          have HQ := Lib.hid hq
          have HJK := Lib.hid hjk
          by_cases hj : j < m
          · obtain ⟨ad1, y1, e1, _, hy1, c1⟩ := LO.int (i := j) (by rw [← HM.out]; exact hj)
            obtain ⟨ad2, y2, rfl, _, hy2, c2⟩ := hA5.int (i := j) (by rw [← HM.out]; exact hj)
            injection e1 with e1
            subst e1
            rw [hy1] at hy2
            injection hy2 with hy2
            subst hy2
            rw [add_lit0] at c1
            have c1' : wr.cell? ⟨g, j, none⟩ = some (.int .i64 y1) := by rw [hq]; exact c1
            have c2' : wr.cell? (ad2.add j) = some (.int .i64 y1) := by rw [hq]; exact c2
            have HY := Lib.hid hy1
            clear c1 c2 hq hjk hy1
            have hjm : (j : Int) < (m : Int) := by omega
            go_wp2_with fail
            go_quiet (fail)
            go_wp2_with fail
            go_roundg (gk - 1)
            case measure => have := HJK.out; omega
            case rel => exact ⟨j + 1, by go_num, by have := HJK.out; omega, _, by rw [HQ.out]; exact drewN_two _ _ _⟩
          · have hRe : Rg wr r (last8 (List.take (i + 1) xs)) := by rw [hq]; exact hR5
            have hbe : Below w.heap.size w wr := by rw [hq]; exact below_drewN hb6 q
            clear hjk hq
            go_wp2_with fail
            go_roundg (k - i - 1)
            case measure => have := HIK.out; omega
            case rel => exact ⟨i + 1, by go_num, by have := HIK.out; omega, hRe, hbe⟩
      · clear hik
        go_wp2_with fail
        go_ret
        exact ⟨rfl, hbz⟩

theorem pushes_law (A : Option Addr) (k c : Nat) (xs : List Int) (w : World) (hk : xs.length = k) (hc : k ≤ c) (hm : c ≤ maxLen) (hA : Lies w w.heap.size A (ints xs)) :
    Calls Try.prog 10 #[.slice A k c] w fun e w' => e = .returned (.bool true) ∧ Below w.heap.size w w' := by
  simp only [maxLen] at hm
  exact pushes_walk A k c xs w hk.symm hc hA (by omega)
end Go.Proofs.Ytgaicojidomenaa.W
