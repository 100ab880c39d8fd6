/- The law HistoOvers: its walk. -/
import Derived.Test.YtgaicojidomenaaHistoF
namespace Go.Proofs.Ytgaicojidomenaa.W
open Go.RowKit

theorem Lies.int {w : World} {B : Nat} {A : Option Addr} {xs : List Int} (h : Lies w B A (ints xs)) {i : Nat} (hi : i < xs.length) : ∃ ad x, A = some ad ∧ ad.block < B ∧ xs[i]? = some x ∧ w.cell? (ad.add i) = some (.int .i64 x) := by
  obtain ⟨ad, e, hb, hc⟩ := h.at_ (k := i) (by simpa using hi)
  exact ⟨ad, xs[i], e, hb, List.getElem?_eq_getElem hi, by simpa using hc⟩
theorem take_snoc {xs : List Int} {i : Nat} {x : Int} (h : xs[i]? = some x) : xs.take (i + 1) = xs.take i ++ [x] := by
  rw [List.take_add_one, h]; rfl
def inB (x : Int) : Bool := decide (0 ≤ x ∧ x < 240)
def fl (xs : List Int) : List Int := xs.filter inB
theorem fl_in {xs : List Int} {x : Int} (h : 0 ≤ x ∧ x < 240) : fl (xs ++ [x]) = fl xs ++ [x] := by simp [fl, inB, h]
theorem fl_out {xs : List Int} {x : Int} (h : ¬ (0 ≤ x ∧ x < 240)) : fl (xs ++ [x]) = fl xs := by
  simp only [fl, List.filter_append]
  rw [show [x].filter inB = [] by simp [inB]; omega, List.append_nil]
theorem fl_len (xs : List Int) : (fl xs).length ≤ xs.length := List.length_filter_le _ _
theorem fl_over (xs : List Int) : cntO (fl xs) = 0 := by
  unfold cntO fl
  rw [List.countP_eq_zero]
  intro a ha
  have := (List.mem_filter.1 ha).2
  simp [inB] at this
  simp; omega
theorem new_twoH {w w1 w2 w3 : World} {r s : Nat} {ys : List Int} (hb1 : Below w.heap.size w w1) (hr : w1.heap.size = r) (hR2 : Hl w2 r ys) (hb2 : Below w1.heap.size w1 w2) (hs : w2.heap.size = s) (hb3 : Below w2.heap.size w2 w3) :
    Hl w3 r ys ∧ w.heap.size ≤ r ∧ w.heap.size ≤ s ∧ r ≠ s ∧ Below w.heap.size w w3 := by
  have h1 := hR2.lt
  have h2 := hb1.size
  have h3 := hb2.size
  exact ⟨hR2.keep hb3 h1, by omega, by omega, by omega, (hb1.trans (hb2.mono h2)).trans (hb3.mono (by omega))⟩

set_option maxRecDepth 100000 in
set_option maxHeartbeats 3200000 in
theorem overs_walk (A : Option Addr) (k c : Nat) (xs : List Int) (often p : Int) (w : World) (hk : k = xs.length) (hA : Lies w w.heap.size A (ints xs)) (hm : k ≤ 9223372036854775807) :
    Calls Try.prog 8 #[.slice A k c, .int .i64 often, .int .i64 p] w fun e w' => e = .returned (.bool true) ∧ Below w.heap.size w w' := by
  have HK := Lib.hid hk
  clear hk
  obtain ⟨q, hq, hq1⟩ := and_nat often 255 8 256 (by decide) (by decide) (by decide)
  by_cases h200 : 200 < k
  · go_enter Try.func8, Try.ntmps8
    go_wp2_with fail
    refine (histo_head _).mono ?_
    rintro e w1 ⟨rfl, hb1⟩
    go_wp2_with fail
    go_ret
    exact ⟨rfl, hb1⟩
  clear hm
  go_enter Try.func8, Try.ntmps8
  go_wp2_with fail
  refine (histo_head _).mono ?_
  rintro e w1 ⟨rfl, hb1⟩
  go_wp2_with fail
  clear hq
  refine (list_new _).mono ?_
  rintro e w2 ⟨rfl, hR2, hb2⟩
  obtain ⟨r, hr⟩ : ∃ r, w1.heap.size = r := ⟨_, rfl⟩
  rw [hr] at hR2 ⊢
  go_wp2_with fail
  refine (list_new _).mono ?_
  rintro e w3 ⟨rfl, hS3, hb3⟩
  obtain ⟨s, hs⟩ : ∃ s, w2.heap.size = s := ⟨_, rfl⟩
  rw [hs] at hS3 ⊢
  obtain ⟨hR3, hrw, hsw, hrs, hb4⟩ := new_twoH hb1 hr hR2 hb2 hs hb3
  clear hb1 hb2 hb3 hR2 hr hs
  go_wp2_with fail
  go_loopg [27] k (fun gk vi wr => ∃ i : Nat, vi = .int .i64 (i : Int) ∧ i + gk = k ∧ Hl wr r (fl (xs.take i)) ∧ Hl wr s (fl (xs.take i)) ∧ Below w.heap.size w wr)
  case atStart => exact ⟨0, rfl, by omega, hR3, hS3, hb4⟩
  case round =>
    obtain ⟨i, rfl, hik, hRz, hSz, hbz⟩ := hrel
    have HIK := Lib.hid hik
    clear hR3 hS3 hb4
    by_cases hi : i < k
    · obtain ⟨ad, x, rfl, hblk, hx, hcx⟩ := hA.int (show i < xs.length by rw [← HK.out]; exact hi)
      have hcx' : wr.cell? (ad.add i) = some (.int .i64 x) := by rw [hbz.cell (by rw [blk_add]; exact hblk)]; exact hcx
      have HX := Lib.hid hx
      have hlen : (fl (xs.take i)).length + 1 < 4096 := by have := fl_len (xs.take i); simp at this; omega
      have HLEN := Lib.hid hlen
      clear hik hcx hx hlen
      by_cases hin : 0 ≤ x ∧ x < 240
      · obtain ⟨hx0, hx1⟩ := hin
        have HF := Lib.hid (fl_in (xs := xs.take i) (x := x) ⟨hx0, hx1⟩)
        go_wp2_with fail
        refine (list_add r x _ _ hRz HLEN.out).mono ?_
        rintro e w4 ⟨rfl, hR4, hg4⟩
        rw [← HF.out, ← take_snoc HX.out] at hR4
        have hb5 := below_row hbz hrw hg4 hbz.size
        have hS4 := hSz.off hg4 hrs.symm
        clear hcx' hSz hRz hbz hg4
        go_wp2_with fail
        refine (list_add s x _ _ hS4 HLEN.out).mono ?_
        rintro e w5 ⟨rfl, hS5, hg5⟩
        rw [← HF.out, ← take_snoc HX.out] at hS5
        have hb6 := below_row hb5 hsw hg5 hb5.size
        have hR5 := hR4.off hg5 hrs
        go_wp2_with fail
        go_roundg (gk - 1)
        case measure => have := HIK.out; omega
        case rel => exact ⟨i + 1, by go_num, by have := HIK.out; omega, hR5, hS5, hb6⟩
      · have HF := Lib.hid (fl_out (xs := xs.take i) hin)
        by_cases hx0 : 0 ≤ x
        · have hx1 : decide (x < 240) = false := by simp; omega
          clear hin
          go_wp2_with fail
          go_roundg (gk - 1)
          case measure => have := HIK.out; omega
          case rel => exact ⟨i + 1, by go_num, by have := HIK.out; omega, by rw [take_snoc HX.out, HF.out]; exact hRz, by rw [take_snoc HX.out, HF.out]; exact hSz, hbz⟩
        · have hx1 : decide (0 ≤ x) = false := by simp; omega
          clear hin
          go_wp2_with fail
          go_roundg (gk - 1)
          case measure => have := HIK.out; omega
          case rel => exact ⟨i + 1, by go_num, by have := HIK.out; omega, by rw [take_snoc HX.out, HF.out]; exact hRz, by rw [take_snoc HX.out, HF.out]; exact hSz, hbz⟩
    · have hle : tot (cnt (fl (xs.take i))) ≤ 200 := by have := tot_le (fl (xs.take i)); have := fl_len (xs.take i); simp at this; omega
      have hR : Hs wr r (cnt (fl (xs.take i))) 0 := by have := fl_over (xs.take i); rw [← this]; exact hRz
      have hS : Hs wr s (cnt (fl (xs.take i))) 0 := by have := fl_over (xs.take i); rw [← this]; exact hSz
      clear hik HIK hRz hSz
      obtain ⟨F, hF⟩ : ∃ F, cnt (fl (xs.take i)) = F := ⟨_, rfl⟩
      rw [hF] at hR hS hle
      clear hF
      have HLE := Lib.hid hle
      clear hle
      go_wp2_with fail
      go_loopg [11] q (fun gk vi wr => ∃ j : Nat, vi = .int .i64 (j : Int) ∧ j + gk = q ∧ Hs wr r F 0 ∧ Hs wr s F j ∧ Below w.heap.size w wr)
      case atStart => exact ⟨0, rfl, by omega, hR, hS, hbz⟩
      case round =>
        clear hR hS hbz
        obtain ⟨j, rfl, hjk, hR, hS, hbz⟩ := hrel
        have HJK := Lib.hid hjk
        by_cases hj : j < q
        · clear hjk
          have hgo : (240 : Int) ≤ 240 + (j : Int) := by omega
          have HG := Lib.hid hgo
          clear hgo
          go_wp2_with fail
          refine (add_low s j (240 + (j : Int)) _ _ hS (by have := HLE.out; omega)).mono ?_
          rintro e w4 ⟨rfl, hS4, hg4⟩
          have hS5 : Hs w4 s F (j + 1) := by
            have e1 : aO j (240 + (j : Int)) = j + 1 := by unfold aO; rw [if_pos HG.out]
            rw [e1] at hS4
            exact hS4.ext (fun n hn => by unfold aF; rw [if_neg (by omega), Nat.add_zero])
          have hb5 := below_row hbz hsw hg4 hbz.size
          have hR4 := hR.off hg4 hrs
          clear hS4
          go_wp2_with fail
          go_roundg (gk - 1)
          case measure => have := HJK.out; omega
          case rel => exact ⟨j + 1, by go_num, by have := HJK.out; omega, hR4, hS5, hb5⟩
        · obtain rfl : q = j := by omega
          clear hjk HJK
          obtain ⟨C, hC⟩ : ∃ C, cutN F (clampP p) = C := ⟨_, rfl⟩
          obtain ⟨b, hb⟩ : ∃ b, decide (0 < tot F) = b := ⟨_, rfl⟩
          obtain ⟨T, hT⟩ : ∃ T, tot F = T := ⟨_, rfl⟩
          obtain ⟨d, hd⟩ : ∃ d, spreadB F = d := ⟨_, rfl⟩
          have HC := Lib.hid hC
          have HB := Lib.hid hb
          have HT := Lib.hid hT
          have HD := Lib.hid hd
          clear hC hb hT hd
          go_wp2_with fail
          refine (cut_any r _ _ p _ hR).mono ?_
          rintro e w5 ⟨rfl, rfl⟩
          rw [HC.out, HB.out]
          go_wp2_with fail
          refine (cut_any s _ _ p _ hS).mono ?_
          rintro e w5 ⟨rfl, rfl⟩
          rw [HC.out, HB.out]
          go_wp2_with fail
          refine (histo_in r _ _ _ hR).mono ?_
          rintro e w5 ⟨rfl, rfl⟩
          rw [HT.out]
          go_wp2_with fail
          refine (histo_in s _ _ _ hS).mono ?_
          rintro e w5 ⟨rfl, rfl⟩
          rw [HT.out]
          go_wp2_with fail
          refine (histo_over s _ _ _ hS).mono ?_
          rintro e w5 ⟨rfl, rfl⟩
          go_wp2_with fail
          refine (spread_any r _ _ _ hR).mono ?_
          rintro e w3 ⟨rfl, d1, rfl⟩
          rw [HD.out]
          have hS3 := hS.drewN d1
          go_wp2_with fail
          refine (spread_any s _ _ _ hS3).mono ?_
          rintro e w4 ⟨rfl, d2, rfl⟩
          rw [HD.out]
          have hb4 := below_drewN hbz (d1 + d2)
          go_wp2_with fail
          go_ret
          refine ⟨ret_bool ?_, hb4⟩
          first | (simp; done) | (cases d <;> rfl)

theorem overs_law (A : Option Addr) (k c : Nat) (xs : List Int) (often p : Int) (w : World) (hk : xs.length = k) (hc : k ≤ c) (hm : c ≤ maxLen) (hA : Lies w w.heap.size A (ints xs)) :
    Calls Try.prog 8 #[.slice A k c, .int .i64 often, .int .i64 p] w fun e w' => e = .returned (.bool true) ∧ Below w.heap.size w w' := by
  simp only [maxLen] at hm
  exact overs_walk A k c xs often p w hk.symm hA (by omega)
end Go.Proofs.Ytgaicojidomenaa.W
