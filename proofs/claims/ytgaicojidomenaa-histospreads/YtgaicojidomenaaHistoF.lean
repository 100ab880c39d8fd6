/- The law HistoSpreads: its walk. -/
import Derived.Test.YtgaicojidomenaaHistoE
namespace Go.Proofs.Ytgaicojidomenaa.W
open Go.RowKit

theorem Hs.ext {w : World} {r o : Nat} {F G : Nat → Nat} (h : Hs w r F o) (he : ∀ j, j < 240 → F j = G j) : Hs w r G o := by
  have e1 : tot F = tot G := sumTo_ext 240 he
  have e2 : bins F = bins G := bins_ext he
  obtain ⟨a, b⟩ := h
  rw [e1] at a b
  rw [e2] at b
  exact ⟨a, b⟩
def F2 (i b : Nat) : Nat → Nat := fun j => i + if j < b then 1 else 0
theorem F2_sum (i b : Nat) : ∀ n, sumTo (F2 i b) n = n * i + min n b
  | 0 => by simp [sumTo]
  | n + 1 => by
    simp only [sumTo]
    rw [F2_sum i b n, Nat.succ_mul]
    unfold F2
    generalize n * i = z
    split <;> omega
theorem F2_tot {i b : Nat} (h : b ≤ 240) : tot (F2 i b) = 240 * i + b := by unfold tot; rw [F2_sum]; omega
theorem F2_next (i b : Nat) : aF (F2 i b) (b : Int) = F2 i (b + 1) := by
  funext j
  unfold aF F2
  split <;> split <;> split <;> omega
theorem F2_over {b : Nat} (h : b < 240) : aO 0 (b : Int) = 0 := by unfold aO; rw [if_neg (by omega)]
theorem F2_turn (i : Nat) : ∀ j, j < 240 → F2 i 240 j = F2 (i + 1) 0 j := by intro j hj; unfold F2; rw [if_pos hj, if_neg (by omega)]
theorem sumTo_const (c : Nat) : ∀ n, sumTo (fun _ => c) n = n * c
  | 0 => by simp [sumTo]
  | n + 1 => by simp only [sumTo]; rw [sumTo_const c n, Nat.succ_mul]
theorem spread_flat {i : Nat} (h : 0 < i) : spreadB (F2 i 0) = false := by
  have e1 : tot (F2 i 0) = 240 * i := by rw [F2_tot (by omega)]; omega
  have e2 : sumTo (sq (F2 i 0)) 240 = 240 * (i * i) := by
    rw [show sq (F2 i 0) = fun _ => i * i by funext j; unfold sq F2; simp, sumTo_const]
  rw [spread_is e1 e2]
  have e3 : 5 * (240 * i) * (240 * i) = 288000 * (i * i) := by
    rw [← Nat.mul_assoc 5 240 i, Nat.mul_assoc (5 * 240) i (240 * i), ← Nat.mul_assoc i 240 i, Nat.mul_comm i 240, Nat.mul_assoc 240 i i, ← Nat.mul_assoc]
  rw [e3]
  have : 0 < i * i := Nat.mul_pos h h
  simp; omega
theorem spread_rep {n t : Nat} (hn : 0 < n) (ht : t < 240) : spreadB (cnt (List.replicate n (t : Int))) = true := by
  have e1 : tot (cnt (List.replicate n (t : Int))) = n := by rw [rep_tot, if_pos ht]
  have e2 : sumTo (sq (cnt (List.replicate n (t : Int)))) 240 = n * n := by
    rw [show sq (cnt (List.replicate n (t : Int))) = fun j => if j = t then n * n else 0 by
      funext j; unfold sq; rw [cnt_rep]; by_cases h : j = t <;> simp [h], sumTo_one, if_pos ht]
  rw [spread_is e1 e2]
  have e3 : 5 * n * n = 5 * (n * n) := Nat.mul_assoc _ _ _
  rw [e3]
  simp; omega
theorem spread_none : spreadB (fun _ => 0) = false := by unfold spreadB; rw [tot, sumTo_zero]; simp

set_option maxRecDepth 100000 in
set_option maxHeartbeats 1600000 in
theorem spreads_walk (t n c : Int) (w : World) :
    Calls Try.prog 7 #[.int .i64 t, .int .i64 n, .int .i64 c] w fun e w' => e = .returned (.bool true) ∧ Below w.heap.size w w' := by
  obtain ⟨q, hq, hq1⟩ := and_nat t 127 7 128 (by decide) (by decide) (by decide)
  obtain ⟨m, hm, hm1⟩ := and_nat n 63 6 64 (by decide) (by decide) (by decide)
  obtain ⟨z, hz, hz1⟩ := and_nat c 7 3 8 (by decide) (by decide) (by decide)
  go_enter Try.func7, Try.ntmps7
  go_wp2_with fail
  refine (histo_head _).mono ?_
  rintro e w1 ⟨rfl, hb1⟩
  go_wp2_with fail
  refine (list_new _).mono ?_
  rintro e w2 ⟨rfl, hR2, hb2⟩
  obtain ⟨r, hr⟩ : ∃ r, w1.heap.size = r := ⟨_, rfl⟩
  have hb3 := hb1.trans (hb2.mono hb1.size)
  have hrw : w.heap.size ≤ r := by rw [← hr]; exact hb1.size
  rw [hr] at hR2 ⊢
  clear hb2 hb1 hr
  go_wp2_with fail
  go_loopg [8] (m + 1) (fun gk vi wr => ∃ i : Nat, vi = .int .i64 (i : Int) ∧ i + gk = m + 1 ∧ Hl wr r (List.replicate i (q : Int)) ∧ Below w.heap.size w wr)
  case atStart => exact ⟨0, rfl, by omega, hR2, hb3⟩
  case round =>
    obtain ⟨i, rfl, hik, hRz, hbz⟩ := hrel
    have HIK := Lib.hid hik
    clear hR2 hb3
    by_cases hi : i < m + 1
    · clear hik
      have hii : (i : Int) < 1 + (m : Int) := by omega
      go_wp2_with fail
      refine (list_add r (q : Int) _ _ hRz (by simp; omega)).mono ?_
      rintro e w2 ⟨rfl, hR2, hg2⟩
      rw [rep_snoc] at hR2
      have hb2 := below_row hbz hrw hg2 hbz.size
      go_wp2_with fail
      go_roundg (gk - 1)
      case measure => have := HIK.out; omega
      case rel => exact ⟨i + 1, by go_num, by have := HIK.out; omega, hR2, hb2⟩
    · obtain rfl : i = m + 1 := by omega
      have hR : Hs wr r (cnt (List.replicate (m + 1) (q : Int))) (cntO (List.replicate (m + 1) (q : Int))) := hRz
      clear hik HIK hi hRz
      have hE1 := Lib.hid (spread_rep (n := m + 1) (t := q) (by omega) (by omega))
      generalize cnt (List.replicate (m + 1) (q : Int)) = F at hR hE1
      generalize cntO (List.replicate (m + 1) (q : Int)) = o at hR
      go_wp2_with fail
      refine (histo_new _).mono ?_
      rintro e w2 ⟨rfl, hS2, hb2⟩
      obtain ⟨s, hs⟩ : ∃ s, wr.heap.size = s := ⟨_, rfl⟩
      have hR2 := hR.keep hb2 hR.lt
      have hrs : r ≠ s := by have := hR.lt; omega
      have hb3 := hbz.trans (hb2.mono hbz.size)
      have hsw : w.heap.size ≤ s := by rw [← hs]; exact hbz.size
      rw [hs] at hS2 ⊢
      have hS3 : Hs w2 s (F2 0 0) 0 := hS2.ext (by intro j _; simp [F2])
      clear hb2 hbz hs hR hS2
      go_wp2_with fail
      clear hq hm hz
      go_loopg [10] (z + 1) (fun gk vi wr => ∃ i : Nat, vi = .int .i64 (i : Int) ∧ i + gk = z + 1 ∧ Hs wr r F o ∧ Hs wr s (F2 i 0) 0 ∧ Below w.heap.size w wr)
      case atStart => exact ⟨0, rfl, by omega, hR2, hS3, hb3⟩
      case round =>
        obtain ⟨i, rfl, hik, hRz, hSz, hbz⟩ := hrel
        have HIK := Lib.hid hik
        clear hR2 hS3 hb3
        by_cases hi : i < z + 1
        · clear hik
          have hii : (i : Int) < 1 + (z : Int) := by omega
          go_wp2_with fail
          go_loopg [11] 240 (fun gk vi wr => ∃ b : Nat, vi = .int .i64 (b : Int) ∧ b + gk = 240 ∧ Hs wr r F o ∧ Hs wr s (F2 i b) 0 ∧ Below w.heap.size w wr)
          case atStart => exact ⟨0, rfl, by omega, hRz, hSz, hbz⟩
          case round =>
            clear hRz hSz hbz
            obtain ⟨b, rfl, hbk, hRz, hSz, hbz⟩ := hrel
            have HBK := Lib.hid hbk
            by_cases hb : b < 240
            · clear hbk
              go_wp2_with fail
              refine (add_low s 0 (b : Int) _ _ hSz (by rw [F2_tot (by omega)]; omega)).mono ?_
              rintro e w3 ⟨rfl, hS3, hg3⟩
              rw [F2_next, F2_over hb] at hS3
              have hb3 := below_row hbz hsw hg3 hbz.size
              have hR3 := hRz.off hg3 hrs
              go_wp2_with fail
              go_roundg (gk - 1)
              case measure => have := HBK.out; omega
              case rel => exact ⟨b + 1, by go_num, by have := HBK.out; omega, hR3, hS3, hb3⟩
            · obtain rfl : b = 240 := by omega
              have hS3 := hSz.ext (F2_turn i)
              clear hbk HBK hSz
              go_wp2_with fail
              go_roundg (z - i)
              case measure => have := HIK.out; omega
              case rel => exact ⟨i + 1, by go_num, by have := HIK.out; omega, hRz, hS3, hbz⟩
        · obtain rfl : i = z + 1 := by omega
          clear hik HIK hi
          have hE2 := Lib.hid (spread_flat (i := z + 1) (by omega))
          have hE3 := Lib.hid spread_none
          go_wp2_with fail
          refine (spread_any r _ _ _ hRz).mono ?_
          rintro e w3 ⟨rfl, d1, rfl⟩
          rw [hE1.out]
          have hS3 := hSz.drewN d1
          have hb3 := below_drewN hbz d1
          go_wp2_with fail
          refine (spread_any s _ _ _ hS3).mono ?_
          rintro e w4 ⟨rfl, d2, rfl⟩
          rw [hE2.out]
          have hb4 := below_drewN hbz (d1 + d2)
          go_wp2_with fail
          refine (histo_new _).mono ?_
          rintro e w5 ⟨rfl, hT5, hb5⟩
          have hb6 := hb4.trans (hb5.mono hb4.size)
          go_wp2_with fail
          refine (spread_any _ _ _ _ hT5).mono ?_
          rintro e w6 ⟨rfl, d3, rfl⟩
          rw [hE3.out]
          have hb7 := below_drewN hb6 d3
          go_wp2_with fail
          go_ret
          exact ⟨rfl, hb7⟩
end Go.Proofs.Ytgaicojidomenaa.W
