/- The law RingLong: its walk. -/
import Derived.Test.YtgaicojidomenaaRingB
namespace Go.Proofs.Ytgaicojidomenaa.W
open Go.RowKit


def lv (x : Int) (i : Nat) : Int := wrap64 (x + (i : Int) % 8)
def lvs (x : Int) (i : Nat) : List Int := (List.range i).map (lv x)
theorem lvs_succ (x : Int) (i : Nat) : lvs x (i + 1) = lvs x i ++ [lv x i] := by simp [lvs, List.range_succ]
theorem lvs_at (x : Int) (m j L : Nat) (hL : L = min m 8) (hj : j < L) : (last8 (lvs x m))[j]? = some (lv x (m - L + j)) := by
  simp only [last8, lvs, List.length_map, List.length_range, List.getElem?_drop]
  rw [List.getElem?_map, List.getElem?_range (by omega), show m - 8 + j = m - L + j by omega]; rfl

set_option maxRecDepth 100000 in
set_option maxHeartbeats 1600000 in
theorem long_walk (n x : Int) (w : World) :
    Calls Try.prog 12 #[.int .i64 n, .int .i64 x] w fun e w' => e = .returned (.bool true) ∧ Below w.heap.size w w' := by
  obtain ⟨m, hm, hm1⟩ := and_nat n 1023 10 1024 (by decide) (by decide) (by decide)
  have hmi : (m : Int) < 1024 := by omega
  go_enter Try.func12, Try.ntmps12
  go_wp2_with fail
  refine (ring_head _).mono ?_
  rintro e w1 ⟨rfl, hb1⟩
  go_wp2_with fail
  clear hm
  refine (ring_new _).mono ?_
  rintro e w2 ⟨rfl, hR2, hb2⟩
  obtain ⟨r, hr⟩ : ∃ r, w1.heap.size = r := ⟨_, rfl⟩
  have hb3 := hb1.trans (hb2.mono hb1.size)
  have hrw : w.heap.size ≤ r := by rw [← hr]; exact hb1.size
  rw [hr] at hR2 ⊢
  clear hb2 hb1 hr
  go_wp2_with fail
  go_loopg [6] m (fun gk vi wr => ∃ i : Nat, vi = .int .i64 (i : Int) ∧ i + gk = m ∧ Rg wr r (last8 (lvs x i)) ∧ Below w.heap.size w wr)
  case atStart => exact ⟨0, rfl, by omega, hR2, hb3⟩
  case round =>
    obtain ⟨i, rfl, hik, hRz, hbz⟩ := hrel
    have HIK := Lib.hid hik
    clear hR2 hb3
    by_cases hi : i < m
    · have h7 := and_natnat i 7 3 8 (by decide) (by decide) (by decide)
      clear hik
      go_wp2_with fail
      refine (ring_push r _ (lv x i) _ hRz).mono ?_
      rintro e w2 ⟨rfl, hR2, hg2⟩
      rw [last8_last, ← lvs_succ] at hR2
      have hb2 := below_row hbz hrw hg2 hbz.size
      clear h7
      go_wp2_with fail
      go_roundg (gk - 1)
      case measure => have := HIK.out; omega
      case rel => exact ⟨i + 1, by go_num, by have := HIK.out; omega, hR2, hb2⟩
    · obtain rfl : i = m := by omega
      clear hik HIK hi
      go_wp2_with fail
      refine (ring_list r _ _ hRz).mono ?_
      rintro e w2 ⟨g, cap, L, HM, rfl, own, hb2⟩
      have hR2 := hRz.keep hb2 hRz.lt
      have hb3 := hbz.trans (hb2.mono hbz.size)
      have hLm : L = min i 8 := by rw [HM.out, last8_len]; simp [lvs]
      rcases (show (8 < i ∧ L = 8) ∨ (i ≤ 8 ∧ i = L) by omega) with ⟨h8, rfl⟩ | ⟨h8, rfl⟩
      · clear hb2 hbz hRz
        have HL : Hid (8 = min i 8) := Lib.hid (by omega)
        clear hLm
        go_wp2_with fail
        refine (ring_len r _ 8 _ hR2 HM.out).mono ?_
        rintro e w3 ⟨rfl, rfl⟩
        go_wp2_with fail
        refine (ring_len r _ 8 _ hR2 HM.out).mono ?_
        rintro e w3 ⟨rfl, rfl⟩
        clear hR2
        go_wp2_with fail
        go_loopg [42] 8 (fun gk vi wr => ∃ j : Nat, vi = .int .i64 (j : Int) ∧ j + gk = 8 ∧ w2 = wr)
        case atStart => exact ⟨0, rfl, by omega, rfl⟩
        case round =>
          obtain ⟨j, rfl, hjk, rfl⟩ := hrel
          have HJK := Lib.hid hjk
          by_cases hj : j < 8
          · have hc := own_cellsI own j _ (lvs_at x i j 8 HL.out hj)
            have h7 : bits .and .i64 ((i : Int) - 8 + (j : Int)) 7 = ((i : Int) - 8 + (j : Int)) % 8 := and_mask _ 7 3 8 (by decide) (by decide) (by decide)
            have e1 : lv x (i - 8 + j) = wrap64 (x + ((i : Int) - 8 + (j : Int)) % 8) := by unfold lv; congr 2; rw [show (((i - 8 + j : Nat)) : Int) = (i : Int) - 8 + (j : Int) by omega]
            rw [e1] at hc
            clear e1 hjk
            go_wp2_with fail
            go_roundg (gk - 1)
            case measure => have := HJK.out; omega
            case rel => exact ⟨j + 1, by go_num, by have := HJK.out; omega, rfl⟩
          · clear hjk
            go_wp2_with fail
            go_ret
            exact ⟨rfl, hb3⟩
      · clear hb2 hbz hRz
        have HL : Hid (i = min i 8) := Lib.hid (by omega)
        clear hLm
        go_wp2_with fail
        refine (ring_len r _ i _ hR2 HM.out).mono ?_
        rintro e w3 ⟨rfl, rfl⟩
        go_wp2_with fail
        refine (ring_len r _ i _ hR2 HM.out).mono ?_
        rintro e w3 ⟨rfl, rfl⟩
        clear hR2
        go_wp2_with fail
        go_loopg [42] i (fun gk vi wr => ∃ j : Nat, vi = .int .i64 (j : Int) ∧ j + gk = i ∧ w2 = wr)
        case atStart => exact ⟨0, rfl, by omega, rfl⟩
        case round =>
          obtain ⟨j, rfl, hjk, rfl⟩ := hrel
          have HJK := Lib.hid hjk
          by_cases hj : j < i
          · have hc := own_cellsI own j _ (lvs_at x i j i HL.out hj)
            have h7 : bits .and .i64 (j : Int) 7 = (j : Int) % 8 := and_mask _ 7 3 8 (by decide) (by decide) (by decide)
            have e1 : lv x (i - i + j) = wrap64 (x + (j : Int) % 8) := by unfold lv; rw [Nat.sub_self, Nat.zero_add]
            rw [e1] at hc
            clear e1 hjk
            go_wp2_with fail
            go_roundg (gk - 1)
            case measure => have := HJK.out; omega
            case rel => exact ⟨j + 1, by go_num, by have := HJK.out; omega, rfl⟩
          · clear hjk
            go_wp2_with fail
            go_ret
            exact ⟨rfl, hb3⟩
theorem long_law (n x : Int) (w : World) :
    Calls Try.prog 12 #[.int .i64 n, .int .i64 x] w fun e w' => e = .returned (.bool true) ∧ Below w.heap.size w w' := long_walk n x w
end Go.Proofs.Ytgaicojidomenaa.W
