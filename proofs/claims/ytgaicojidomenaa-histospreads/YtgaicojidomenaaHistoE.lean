/- Idle times as lists; the document's example; the law HistoOnes: its walk. -/
import Derived.Test.YtgaicojidomenaaHistoD
namespace Go.Proofs.Ytgaicojidomenaa.W
open Go.RowKit

/-- A histogram of a list of idle times, none halved. -/
def Hl (w : World) (r : Nat) (xs : List Int) : Prop := Hs w r (cnt xs) (cntO xs)
theorem Hl.lt {w : World} {r : Nat} {xs : List Int} (h : Hl w r xs) : r < w.heap.size := Hs.lt h
theorem Hl.keep {w w' : World} {r : Nat} {xs : List Int} {B : Nat} (h : Hl w r xs) (hb : Below B w w') (hr : r < B) : Hl w' r xs := Hs.keep h hb hr
theorem Hl.off {w w' : World} {r q : Nat} {xs : List Int} (h : Hl w r xs) (hb : w.grownBy w' (some q)) (hr : r ≠ q) : Hl w' r xs := Hs.off h hb hr
theorem list_new (w : World) : Calls Try.prog 15 #[] w fun e w' => e = .returned (.pointer (some ⟨w.heap.size, 0, none⟩)) ∧ Hl w' w.heap.size [] ∧ Below w.heap.size w w' := by
  refine (histo_new w).mono ?_
  rintro e w' ⟨h1, h2, h3⟩
  refine ⟨h1, ?_, h3⟩
  show Hs _ _ _ _
  rw [cnt_nil, cntO_nil]; exact h2
theorem list_add (r : Nat) (x : Int) (xs : List Int) (w : World) (h : Hl w r xs) (hl : xs.length + 1 < 4096) :
    Calls Try.prog 16 #[.pointer (some ⟨r, 0, none⟩), .int .i64 x] w fun e w' => e = .returned (.tuple #[]) ∧ Hl w' r (xs ++ [x]) ∧ w.grownBy w' (some r) := by
  refine (add_low r (cntO xs) x (cnt xs) w h (by have := tot_le xs; omega)).mono ?_
  rintro e w' ⟨h1, h2, h3⟩
  refine ⟨h1, ?_, h3⟩
  show Hs _ _ _ _
  rw [cnt_snoc, cntO_snoc]; exact h2

theorem ex_tot : tot (cnt [3, 3, 9]) = 3 := by decide +kernel
theorem ex_50 : cutN (cnt [3, 3, 9]) (clampP 50) = 3 := by decide +kernel
theorem ex_99 : cutN (cnt [3, 3, 9]) (clampP 99) = 9 := by decide +kernel

set_option maxRecDepth 100000 in
set_option maxHeartbeats 800000 in
theorem histo_head (w : World) : Calls Try.prog 14 #[] w fun e w' => e = .returned (.bool true) ∧ Below w.heap.size w w' := by
  go_enter Try.func14, Try.ntmps14
  go_wp2_with fail
  refine (list_new _).mono ?_
  rintro e w1 ⟨rfl, hR, hb⟩
  obtain ⟨r, hr⟩ : ∃ r, w.heap.size = r := ⟨_, rfl⟩
  have hrw : w.heap.size ≤ r := by omega
  rw [hr] at hR ⊢
  clear hr
  go_wp2_with fail
  refine (list_add r 3 [] _ hR (by simp)).mono ?_
  rintro e w2 ⟨rfl, hR2, hg2⟩
  have hb2 := below_row hb hrw hg2 hb.size
  clear hb hg2 hR
  go_wp2_with fail
  refine (list_add r 3 _ _ hR2 (by simp)).mono ?_
  rintro e w3 ⟨rfl, hR3, hg3⟩
  have hb3 := below_row hb2 hrw hg3 hb2.size
  clear hb2 hg3 hR2
  go_wp2_with fail
  refine (list_add r 9 _ _ hR3 (by simp)).mono ?_
  rintro e w4 ⟨rfl, hR4, hg4⟩
  have hb4 := below_row hb3 hrw hg4 hb3.size
  have hR5 : Hs w4 r (cnt [3, 3, 9]) (cntO [3, 3, 9]) := hR4
  clear hb3 hg4 hR3 hR4
  go_wp2_with fail
  refine (cut_any r _ _ 50 _ hR5).mono ?_
  rintro e w5 ⟨rfl, rfl⟩
  rw [ex_50, ex_tot]
  go_wp2_with fail
  refine (cut_any r _ _ 99 _ hR5).mono ?_
  rintro e w5 ⟨rfl, rfl⟩
  rw [ex_99, ex_tot]
  go_wp2_with fail
  refine (histo_in r _ _ _ hR5).mono ?_
  rintro e w5 ⟨rfl, rfl⟩
  rw [ex_tot]
  go_wp2_with fail
  go_ret
  exact ⟨rfl, hb4⟩

theorem cnt_rep (n t : Nat) : cnt (List.replicate n (t : Int)) = fun j => if j = t then n else 0 := by
  funext j
  simp only [cnt, List.count_replicate]
  by_cases h : j = t
  · subst h; simp
  · have h' : ¬ (t : Int) = (j : Int) := by omega
    simp [h, h']
theorem rep_sum (n t j : Nat) : sumTo (cnt (List.replicate n (t : Int))) j = if t < j then n else 0 := by rw [cnt_rep, sumTo_one]
theorem rep_tot (n t : Nat) : tot (cnt (List.replicate n (t : Int))) = if t < 240 then n else 0 := rep_sum n t 240
theorem rep_over (n t : Nat) : cntO (List.replicate n (t : Int)) = if 240 ≤ t then n else 0 := by
  simp only [cntO, List.countP_replicate, decide_eq_true_eq]
  by_cases h : 240 ≤ t
  · rw [if_pos h, if_pos (by omega)]
  · rw [if_neg h, if_neg (by omega)]
theorem rep_cut {n t P : Nat} (hn : 0 < n) (ht : t < 240) (hP : P ≤ 100) : cutN (cnt (List.replicate n (t : Int))) P = t := by
  refine cutN_is ⟨by rw [rep_sum, if_pos (by omega)]; exact hn, ?_⟩ ht ?_
  · rw [rep_sum, rep_tot, if_pos ht, if_pos (Nat.lt_succ_self t), Nat.mul_comm]
    exact Nat.mul_le_mul_left _ hP
  · intro j hj h
    have := h.1
    rw [rep_sum, if_neg (by omega)] at this
    omega
theorem rep_snoc (n : Nat) (t : Int) : List.replicate n t ++ [t] = List.replicate (n + 1) t := by rw [List.replicate_succ']

set_option maxRecDepth 100000 in
set_option maxHeartbeats 1600000 in
theorem hones_walk (t n p : Int) (w : World) :
    Calls Try.prog 9 #[.int .i64 t, .int .i64 n, .int .i64 p] w fun e w' => e = .returned (.bool true) ∧ Below w.heap.size w w' := by
  obtain ⟨q, hq, hq1⟩ := and_nat t 255 8 256 (by decide) (by decide) (by decide)
  obtain ⟨m, hm, hm1⟩ := and_nat n 255 8 256 (by decide) (by decide) (by decide)
  go_enter Try.func9, Try.ntmps9
  go_wp2_with fail
  refine (histo_head _).mono ?_
  rintro e w1 ⟨rfl, hb1⟩
  go_wp2_with fail
  clear hm hq
  refine (list_new _).mono ?_
  rintro e w2 ⟨rfl, hR2, hb2⟩
  obtain ⟨r, hr⟩ : ∃ r, w1.heap.size = r := ⟨_, rfl⟩
  have hb3 := hb1.trans (hb2.mono hb1.size)
  have hrw : w.heap.size ≤ r := by rw [← hr]; exact hb1.size
  rw [hr] at hR2 ⊢
  clear hb2 hb1 hr
  go_wp2_with fail
  go_loopg [8] (m + 1) (fun gk vi wr => ∃ i : Nat, vi = .int .i64 (i : Int) ∧ i + gk = m + 1 ∧ Hl wr r (List.replicate i (q : Int)) ∧ Below w.heap.size w wr)
  case atStart => exact ⟨0, rfl, by omega, hR2, hb3⟩
  case round =>
    obtain ⟨i, rfl, hik, hRz, hbz⟩ := hrel
    have HIK := Lib.hid hik
    clear hR2 hb3
    by_cases hi : i < m + 1
    · clear hik
      have hii : (i : Int) < 1 + (m : Int) := by omega
      go_wp2_with fail
      refine (list_add r (q : Int) _ _ hRz (by simp; omega)).mono ?_
      rintro e w2 ⟨rfl, hR2, hg2⟩
      rw [rep_snoc] at hR2
      have hb2 := below_row hbz hrw hg2 hbz.size
      go_wp2_with fail
      go_roundg (gk - 1)
      case measure => have := HIK.out; omega
      case rel => exact ⟨i + 1, by go_num, by have := HIK.out; omega, hR2, hb2⟩
    · obtain rfl : i = m + 1 := by omega
      have hR : Hs wr r (cnt (List.replicate (m + 1) (q : Int))) (cntO (List.replicate (m + 1) (q : Int))) := hRz
      clear hik HIK hi hRz
      by_cases h240 : q < 240
      · have hE1 := Lib.hid (rep_tot (m + 1) q)
        rw [if_pos h240] at hE1
        have hE2 := Lib.hid (rep_cut (n := m + 1) (t := q) (P := clampP p) (by omega) h240 (clampP_le p))
        have hE3 : Hid (cnt (List.replicate (m + 1) (q : Int)) q = m + 1) := Lib.hid (by rw [cnt_rep]; simp)
        go_wp2_with fail
        refine (cut_any r _ _ p _ hR).mono ?_
        rintro e w5 ⟨rfl, rfl⟩
        rw [hE1.out, hE2.out, show decide (0 < m + 1) = true by simp]
        go_wp2_with fail
        refine (histo_in r _ _ _ hR).mono ?_
        rintro e w5 ⟨rfl, rfl⟩
        rw [hE1.out]
        go_wp2_with fail
        refine (histo_bin r _ q _ _ hR h240).mono ?_
        rintro e w5 ⟨rfl, rfl⟩
        rw [hE3.out]
        go_wp2_with fail
        go_ret
        refine ⟨ret_bool ?_, hbz⟩
        first | (simp; done) | (simp; omega)
      · have hE1 := Lib.hid (rep_tot (m + 1) q)
        rw [if_neg h240] at hE1
        have hE3 := Lib.hid (rep_over (m + 1) q)
        rw [if_pos (by omega)] at hE3
        go_wp2_with fail
        refine (cut_any r _ _ p _ hR).mono ?_
        rintro e w5 ⟨rfl, rfl⟩
        rw [hE1.out, show decide (0 < 0) = false by simp]
        generalize cutN (cnt (List.replicate (m + 1) (q : Int))) (clampP p) = c
        go_wp2_with fail
        refine (histo_over r _ _ _ hR).mono ?_
        rintro e w5 ⟨rfl, rfl⟩
        rw [hE3.out]
        go_wp2_with fail
        refine (histo_in r _ _ _ hR).mono ?_
        rintro e w5 ⟨rfl, rfl⟩
        rw [hE1.out]
        go_wp2_with fail
        go_ret
        refine ⟨ret_bool ?_, hbz⟩
        first | (simp; done) | (simp; omega)
end Go.Proofs.Ytgaicojidomenaa.W
