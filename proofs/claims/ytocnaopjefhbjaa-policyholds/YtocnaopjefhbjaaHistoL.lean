/- Contracts of the statement's own model of counts: Cut, Same. -/
import Derived.Test.YtocnaopjefhbjaaHistoK
import Derived.Test.YtocnaopjefhbjaaHistoI
namespace Go.Proofs.Ytocnaopjefhbjaa.W
open Go.RowKit

theorem ret_cut0 {b : Nat} {y : Bool} (h1 : b = 0) (h2 : y = false) : Ending.returned (.tuple #[.int .i64 0, .bool false]) = .returned (.tuple #[.int .i64 (b : Int), .bool y]) := by rw [h1, h2]; rfl

set_option maxRecDepth 100000 in
set_option maxHeartbeats 1600000 in
theorem model_cut (r o P : Nat) (F : Nat → Nat) (w : World) (h : Md w r F o) (hP1 : P ≤ 100) :
    Calls Try.prog 29 #[.pointer (some ⟨r, 0, none⟩), .int .i64 (P : Int)] w fun e w' =>
      e = .returned (.tuple #[.int .i64 ((cutN F P : Nat) : Int), .bool (decide (0 < tot F))]) ∧ w = w' := by
  have hlt := h.1
  have HM := Lib.hid h
  obtain ⟨T, hT⟩ : ∃ T, tot F = T := ⟨_, rfl⟩
  rw [hT] at hlt
  have HT := Lib.hid hT
  have hPT : P * T ≤ 100 * T := Nat.mul_le_mul_right _ hP1
  have hPi : ((P * T : Nat) : Int) = (P : Int) * (T : Int) := Int.natCast_mul _ _
  have hw : (P : Int) * (T : Int) ≤ 409600 := by omega
  have hw0 : 0 ≤ (P : Int) * (T : Int) := by omega
  have HPi := Lib.hid hPi
  clear h hT hPi hPT
  go_enter Try.func29, Try.ntmps29
  go_wp2_with fail
  refine (model_in r o _ _ HM.out).mono ?_
  rintro e w1 ⟨rfl, rfl⟩
  rw [HT.out]
  go_wp2_with fail
  go_loopg [13] 240 (fun gk vi wr => ∃ k : Nat, vi = .int .i64 (k : Int) ∧ k + gk = 240 ∧ Hid (∀ j, j < k → ¬ okC F P j) ∧ w = wr)
  case atStart => exact ⟨0, rfl, rfl, Lib.hid (by intro j hj; omega), rfl⟩
  case round =>
    obtain ⟨k, rfl, hk, HJ, rfl⟩ := hrel
    have HK := Lib.hid hk
    clear hk
    by_cases hlt2 : k < 240
    · have hki : (k : Int) < 240 := by omega
      have hki1 : (k : Int) + 1 ≤ 240 := by omega
      have hki0 : (0 : Int) ≤ (k : Int) + 1 := by omega
      go_wp2_with fail
      go_loopg [8, 23] (k + 1) (fun gk vb vi wr => ∃ j : Nat, vi = .int .i64 (j : Int) ∧ vb = .int .i64 ((sumTo F j : Nat) : Int) ∧ j + gk = k + 1 ∧ w = wr)
      case atStart => exact ⟨0, rfl, rfl, by omega, rfl⟩
      case round =>
        obtain ⟨j, rfl, rfl, hj, rfl⟩ := hrel
        have HJ2 := Lib.hid hj
        clear hj
        by_cases hjk : j < k + 1
        · have c1 := HM.out.cellBin (show j < 240 by omega)
          obtain ⟨f, hf⟩ : ∃ f, F j = f := ⟨_, rfl⟩
          obtain ⟨S, hS⟩ : ∃ S, sumTo F j = S := ⟨_, rfl⟩
          have hS1 : sumTo F (j + 1) = S + f := by simp only [sumTo]; rw [hS, hf]
          have hS2 : S + f ≤ T := by rw [← hS1, ← HT.out]; exact sumTo_mono F (by omega)
          rw [hf] at c1
          rw [hS]
          have HS1 := Lib.hid hS1
          clear hS hf hS1
          have hji : (j : Int) < (k : Int) + 1 := by omega
          go_wp2_with fail
          go_roundg (gk - 1)
          case measure => have := HJ2.out; omega
          case rel => exact ⟨j + 1, by go_num, by rw [HS1.out]; rfl, by have := HJ2.out; omega, rfl⟩
        · obtain rfl : j = k + 1 := by have := HJ2.out; omega
          obtain ⟨S, hS⟩ : ∃ S, sumTo F (k + 1) = S := ⟨_, rfl⟩
          have hS2 : S ≤ T := by rw [← hS, ← HT.out]; exact sumTo_mono F (by omega)
          rw [hS]
          have HS1 := Lib.hid hS
          clear hS
          by_cases hpos : 0 < S
          · have hpd : decide ((0 : Int) < (S : Int)) = true := by simp; omega
            by_cases hok : P * T ≤ S * 100
            · have hoi : (P : Int) * (T : Int) ≤ (S : Int) * 100 := by rw [← HPi.out]; omega
              have HE := Lib.hid (cutN_is (F := F) (P := P) (c := k) ⟨by rw [HS1.out]; exact hpos, by rw [HS1.out, HT.out]; exact hok⟩ hlt2 HJ.out)
              go_wp2_with fail
              go_ret2
              exact ⟨ret_cut (by rw [HE.out]) (by rw [HT.out]; simp; omega), rfl⟩
            · have hoi : decide ((P : Int) * (T : Int) ≤ (S : Int) * 100) = false := by rw [← HPi.out]; simp; omega
              go_wp2_with fail
              go_roundg (239 - k)
              case measure => have := HK.out; omega
              case rel =>
                refine ⟨k + 1, by go_num, by have := HK.out; omega, Lib.hid ?_, rfl⟩
                intro j hj
                rcases Nat.lt_or_ge j k with q | q
                · exact HJ.out j q
                · obtain rfl : j = k := by omega
                  intro hq; have := hq.2; rw [HS1.out, HT.out] at this; omega
          · have hpd : decide ((0 : Int) < (S : Int)) = false := by simp; omega
            go_wp2_with fail
            go_roundg (239 - k)
            case measure => have := HK.out; omega
            case rel =>
              refine ⟨k + 1, by go_num, by have := HK.out; omega, Lib.hid ?_, rfl⟩
              intro j hj
              rcases Nat.lt_or_ge j k with q | q
              · exact HJ.out j q
              · obtain rfl : j = k := by omega
                intro hq; have := hq.1; rw [HS1.out] at this; omega
    · obtain rfl : k = 240 := by have := HK.out; omega
      have hz : T = 0 := by
        rcases Nat.eq_zero_or_pos T with q | q
        · exact q
        · exact absurd (okC_last (F := F) (P := P) (by rw [HT.out]; exact q) hP1) (HJ.out 239 (by omega))
      have E := Lib.hid (cutN_none (F := F) (P := P) HJ.out)
      have HZ := Lib.hid hz
      clear hz
      go_wp2_with fail
      go_ret2
      exact ⟨ret_cut0 E.out (by rw [HT.out, HZ.out]; rfl), rfl⟩

end Go.Proofs.Ytocnaopjefhbjaa.W
