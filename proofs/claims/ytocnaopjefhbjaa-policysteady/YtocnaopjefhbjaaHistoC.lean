/- Contracts of package histo: Cut, Spread, Counts, and the document's example. -/
import Derived.Test.YtocnaopjefhbjaaHistoB
namespace Go.Proofs.Ytocnaopjefhbjaa.W
open Go.RowKit

theorem ret_cut {a b : Nat} {x y : Bool} (h1 : a = b) (h2 : x = y) : Ending.returned (.tuple #[.int .i64 (a : Int), .bool x]) = .returned (.tuple #[.int .i64 (b : Int), .bool y]) := by rw [h1, h2]
theorem not_okC_zero {F : Nat → Nat} {P j : Nat} (h : tot F = 0) (hj : j < 240) : ¬ okC F P j := by
  intro hk
  have := sumTo_mono F (show j + 1 ≤ 240 by omega)
  have h1 := hk.1
  unfold tot at h; omega

set_option maxRecDepth 100000 in
set_option maxHeartbeats 800000 in
theorem cut_any (r o : Nat) (F : Nat → Nat) (p : Int) (w : World) (h : Hs w r F o) :
    Calls Try.prog 36 #[.pointer (some ⟨r, 0, none⟩), .int .i64 p] w fun e w' =>
      e = .returned (.tuple #[.int .i64 ((cutN F (clampP p) : Nat) : Int), .bool (decide (0 < tot F))]) ∧ w = w' := by
  have hlt := h.1
  have c0 := h.cellIn
  have H := Lib.hid h.2
  obtain ⟨T, hT⟩ : ∃ T, tot F = T := ⟨_, rfl⟩
  rw [hT] at hlt c0 H
  have HT := Lib.hid hT
  clear h hT
  by_cases hz : T = 0
  · subst hz
    have E := Lib.hid (cutN_none (F := F) (P := clampP p) (fun j hj => not_okC_zero HT.out hj))
    go_enter Try.func36, Try.ntmps36
    go_wp2
    go_ret2
    exact ⟨ret_cut (a := 0) E.out.symm (by rw [HT.out]; rfl), rfl⟩
  · obtain ⟨P, hP⟩ : ∃ P, clampP p = P := ⟨_, rfl⟩
    have hP1 : P ≤ 100 := by rw [← hP]; exact clampP_le p
    obtain ⟨m, hm⟩ : ∃ m, m = max p 0 := ⟨_, rfl⟩
    have hP2 : (P : Int) = min m 100 := by rw [← hP, hm]; exact clampP_int p
    have hdz : ((T : Int) == 0) = false := by simp; omega
    have HP := Lib.hid hP
    have HP2 := Lib.hid hP2
    have HM := Lib.hid hm
    clear hP hP2 hm
    go_enter Try.func36, Try.ntmps36
    go_wp2_with (first
      | (with_reducible refine wpList_max_to rfl (.tmp 14) (.const (.int .i64 0)) 3 3 rfl .i64 .i64 p 0 m rfl rfl HM.out ?_)
      | (with_reducible refine wpList_min_to rfl (.tmp 15) (.const (.int .i64 100)) 3 3 rfl .i64 .i64 m 100 (P : Int) rfl rfl HP2.out ?_)
      | (with_reducible refine wpList_load_head rfl 29 (.tmp 19) rfl r rfl (bins F) _ _ _ 240 3 H.out Try.underlying29 (by rw [bins_len]; exact sizeRow) ?_))
    clear HP2 HM hdz
    go_loopg [6, 21] 240 (fun gk vb vi wr => ∃ k : Nat, vi = .int .i64 (k : Int) ∧ vb = .int .i64 ((sumTo F k : Nat) : Int) ∧ k + gk = 240 ∧ Hid (∀ j, j < k → ¬ okC F P j) ∧ w = wr)
    case atStart => exact ⟨0, rfl, rfl, rfl, Lib.hid (by intro j hj; omega), rfl⟩
    case round =>
      obtain ⟨k, rfl, rfl, hk, HJ, rfl⟩ := hrel
      have HK := Lib.hid hk
      clear hk
      by_cases hlt2 : k < 240
      · have hki : (k : Int) < 240 := by omega
        obtain ⟨f, hf⟩ : ∃ f, F k = f := ⟨_, rfl⟩
        obtain ⟨S, hS⟩ : ∃ S, sumTo F k = S := ⟨_, rfl⟩
        have hS1 : sumTo F (k + 1) = S + f := by simp only [sumTo]; rw [hS, hf]
        have hS2 : S + f ≤ T := by rw [← hS1, ← HT.out]; exact sumTo_mono F (by omega)
        have hb := bins_at F hlt2
        rw [hf] at hb
        rw [hS]
        have HB := Lib.hid hb
        have HS1 := Lib.hid hS1
        have hPT : P * T ≤ 100 * T := Nat.mul_le_mul_right _ hP1
        have hPi : ((P * T : Nat) : Int) = (P : Int) * (T : Int) := Int.natCast_mul _ _
        have hw : (P : Int) * (T : Int) ≤ 409600 := by omega
        have hw0 : 0 ≤ (P : Int) * (T : Int) := by omega
        have HPi := Lib.hid hPi
        clear hb hS hf hS1 hPi hPT
        by_cases hpos : 0 < S + f
        · have hpd : decide ((0 : Int) < (S : Int) + (f : Int)) = true := by simp; omega
          by_cases hok : P * T ≤ (S + f) * 100
          · have hoi : (P : Int) * (T : Int) ≤ ((S : Int) + (f : Int)) * 100 := by rw [← HPi.out]; omega
            have HE := Lib.hid (cutN_is (F := F) (P := P) (c := k) ⟨by rw [HS1.out]; exact hpos, by rw [HS1.out, HT.out]; exact hok⟩ hlt2 HJ.out)
            go_wp2_with (with_reducible refine wpList_index_cell rfl 29 (.tmp 20) (.tmp 21) rfl 240 3 Try.underlying29 _ Try.underlying3 rfl sizeInt (bins F) rfl .i64 k rfl hlt2 (.int .i64 (f : Int)) HB.out ?_)
            go_ret2
            exact ⟨ret_cut (by rw [HP.out, HE.out]) (by rw [HT.out]; simp; omega), rfl⟩
          · have hoi : decide ((P : Int) * (T : Int) ≤ ((S : Int) + (f : Int)) * 100) = false := by rw [← HPi.out]; simp; omega
            go_wp2_with (with_reducible refine wpList_index_cell rfl 29 (.tmp 20) (.tmp 21) rfl 240 3 Try.underlying29 _ Try.underlying3 rfl sizeInt (bins F) rfl .i64 k rfl hlt2 (.int .i64 (f : Int)) HB.out ?_)
            go_roundg (gk - 1)
            case measure => have := HK.out; omega
            case rel =>
              refine ⟨k + 1, by go_num, by rw [HS1.out]; rfl, by have := HK.out; omega, Lib.hid ?_, rfl⟩
              intro j hj
              rcases Nat.lt_or_ge j k with q | q
              · exact HJ.out j q
              · obtain rfl : j = k := by omega
                intro hq; have := hq.2; rw [HS1.out, HT.out] at this; omega
        · have hpd : decide ((0 : Int) < (S : Int) + (f : Int)) = false := by simp; omega
          go_wp2_with (with_reducible refine wpList_index_cell rfl 29 (.tmp 20) (.tmp 21) rfl 240 3 Try.underlying29 _ Try.underlying3 rfl sizeInt (bins F) rfl .i64 k rfl hlt2 (.int .i64 (f : Int)) HB.out ?_)
          go_roundg (gk - 1)
          case measure => have := HK.out; omega
          case rel =>
            refine ⟨k + 1, by go_num, by rw [HS1.out]; rfl, by have := HK.out; omega, Lib.hid ?_, rfl⟩
            intro j hj
            rcases Nat.lt_or_ge j k with q | q
            · exact HJ.out j q
            · obtain rfl : j = k := by omega
              intro hq; have := hq.1; rw [HS1.out] at this; omega
      · exact absurd (okC_last (F := F) (P := P) (by rw [HT.out]; omega) hP1) (HJ.out 239 (by have := HK.out; omega))

end Go.Proofs.Ytocnaopjefhbjaa.W
