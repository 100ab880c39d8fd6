/- The law PolicySteady: its walk. -/
import Derived.Test.YtocnaopjefhbjaaPolB
import Derived.Test.YtocnaopjefhbjaaCastE
namespace Go.Proofs.Ytocnaopjefhbjaa.W
open Go.RowKit
set_option linter.unusedVariables false

theorem last8_rep (m : Nat) (x : Int) : last8 (List.replicate m x) = List.replicate (min m 8) x := by
  simp only [last8, List.drop_replicate, List.length_replicate]; congr 1; omega
theorem steady_few {m q : Nat} (h : m < 4) : win (cnt (List.replicate m (q : Int))) (cntO (List.replicate m (q : Int))) (last8 (List.replicate m (q : Int))) = Win 0 0 10 :=
  win_few (by have := tot_le (List.replicate m (q : Int)); simp at this; omega)
theorem steady_hist {m q : Nat} (h : 4 ≤ m) (hq : q < 240) : win (cnt (List.replicate m (q : Int))) (cntO (List.replicate m (q : Int))) (last8 (List.replicate m (q : Int))) = Win 1 (preC q) (endC q) := by
  have h1 : tot (cnt (List.replicate m (q : Int))) = m := by rw [rep_tot, if_pos hq]
  have h2 : cntO (List.replicate m (q : Int)) = 0 := by rw [rep_over, if_neg (by omega)]
  rw [win_hist (by omega) (by omega) (spread_rep (by omega) hq), rep_cut (by omega) hq (by omega), rep_cut (by omega) hq (by omega)]
theorem steady_next {m q : Nat} (h : 4 ≤ m) (hq : 240 ≤ q) (hq1 : q < 16777216) : win (cnt (List.replicate m (q : Int))) (cntO (List.replicate m (q : Int))) (last8 (List.replicate m (q : Int))) = Win 2 (preN q) (endN q) := by
  have h1 : tot (cnt (List.replicate m (q : Int))) = 0 := by rw [rep_tot, if_neg (by omega)]
  have h2 : cntO (List.replicate m (q : Int)) = m := by rw [rep_over, if_pos hq]
  rw [win_next (by omega) (by omega), last8_rep, same_next _ _ (by omega) (by omega), clip_in (by omega) (by omega)]

set_option maxRecDepth 100000 in
set_option maxHeartbeats 1600000 in
theorem steady_law (t n : Int) (w : World) :
    Calls Try.prog 4 #[.int .i64 t, .int .i64 n] w fun e w' => e = .returned (.bool true) ∧ Below w.heap.size w w' := by
  obtain ⟨q, hq, hq1⟩ := and_nat t 16777215 24 16777216 (by decide) (by decide) (by decide)
  obtain ⟨m, hm, hm1⟩ := and_nat n 63 6 64 (by decide) (by decide) (by decide)
  go_enter Try.func4, Try.ntmps4
  go_wp2_with fail
  refine (pol_head _).mono ?_
  rintro e w1 ⟨rfl, hb1⟩
  go_wp2_with fail
  clear hm hq
  refine (list_new _).mono ?_
  rintro e w2 ⟨rfl, hR2, hb2⟩
  obtain ⟨r, hr⟩ : ∃ r, w1.heap.size = r := ⟨_, rfl⟩
  have hrw : w.heap.size ≤ r := by rw [← hr]; exact hb1.size
  have hb3 := hb1.trans (hb2.mono hb1.size)
  rw [hr] at hR2 ⊢
  clear hb1 hb2 hr
  go_wp2_with fail
  refine (ring_new _).mono ?_
  rintro e w3 ⟨rfl, hS3, hb4⟩
  obtain ⟨s, hs⟩ : ∃ s, w2.heap.size = s := ⟨_, rfl⟩
  have hsw : w.heap.size ≤ s := by rw [← hs]; exact hb3.size
  have hrs : r ≠ s := by have := hR2.lt; omega
  have hR3 := hR2.keep hb4 hR2.lt
  have hb5 := hb3.trans (hb4.mono hb3.size)
  rw [hs] at hS3 ⊢
  clear hb3 hb4 hR2 hs
  go_wp2_with fail
  go_loopg [7] m (fun gk vi wr => ∃ i : Nat, vi = .int .i64 (i : Int) ∧ i + gk = m ∧ Hl wr r (List.replicate i (q : Int)) ∧ Rg wr s (last8 (List.replicate i (q : Int))) ∧ Below w.heap.size w wr)
  case atStart => exact ⟨0, rfl, by omega, hR3, hS3, hb5⟩
  case round =>
    obtain ⟨i, rfl, hik, hRz, hSz, hbz⟩ := hrel
    have HIK := Lib.hid hik
    clear hR3 hS3 hb5
    by_cases hi : i < m
    · clear hik
      go_wp2_with fail
      refine (list_add r (q : Int) _ _ hRz (by simp; omega)).mono ?_
      rintro e w3 ⟨rfl, hR3, hg3⟩
      rw [rep_snoc] at hR3
      have hb4 := below_row hbz hrw hg3 hbz.size
      have hS3 := hSz.off hg3 hrs.symm
      clear hRz hSz hbz hg3
      go_wp2_with fail
      refine (ring_push s _ (q : Int) _ hS3).mono ?_
      rintro e w4 ⟨rfl, hS4, hg4⟩
      rw [last8_last, rep_snoc] at hS4
      have hb5 := below_row hb4 hsw hg4 hb4.size
      have hR4 := hR3.off hg4 hrs
      clear hR3 hS3 hb4 hg4
      go_wp2_with fail
      go_roundg (gk - 1)
      case measure => have := HIK.out; omega
      case rel => exact ⟨i + 1, by go_num, by have := HIK.out; omega, hR4, hS4, hb5⟩
    · obtain rfl : m = i := by omega
      clear hik HIK hi
      go_wp2_with fail
      refine (of_any r s _ _ _ _ hRz hSz).mono ?_
      rintro e w3 ⟨rfl, hb3⟩
      have hb4 := hbz.trans (hb3.mono hbz.size)
      have hb5 := fun (o : Obj) => hb4.alloc hb4.size o
      clear hRz hSz hbz hb3
      by_cases h4 : m < 4
      · rw [steady_few h4]
        go_wp2_with fail
        go_ret
        exact ⟨rfl, hb5 _⟩
      by_cases h240 : q < 240
      · rw [steady_hist (by omega) h240]
        have hd4 : decide ((m : Int) < 4) = false := by simp; omega
        have hp : preC q ≤ (q : Int) := by unfold preC; omega
        have he : (q : Int) < endC q := by unfold endC; omega
        generalize preC q = p at *
        generalize endC q = en at *
        go_wp2_with fail
        go_ret
        refine ⟨ret_bool ?_, hb5 _⟩
        first | rfl | (simp; done) | (simp; omega)
      · rw [steady_next (by omega) (by omega) hq1]
        have hd4 : decide ((m : Int) < 4) = false := by simp; omega
        have hd240 : decide ((q : Int) < 240) = false := by simp; omega
        have hp : preN q ≤ (q : Int) := by unfold preN; omega
        have he : (q : Int) ≤ endN q := by unfold endN; omega
        generalize preN q = p at *
        generalize endN q = en at *
        go_wp2_with fail
        go_ret
        refine ⟨ret_bool ?_, hb5 _⟩
        first | rfl | (simp; done) | (simp; omega)
end Go.Proofs.Ytocnaopjefhbjaa.W
