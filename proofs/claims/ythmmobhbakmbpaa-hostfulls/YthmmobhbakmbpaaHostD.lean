/- Contract of package host: Fit. -/
import Derived.Test.YthmmobhbakmbpaaHostC
import Derived.Deep.LoopGhost
namespace Go.Proofs.Ythmmobhbakmbpaa.W
open Go.RowKit

theorem fitT_skip {H : Int → Option Ht} {m : Int} {n : Nat} (h : fits H m n = false) : fitT H m (n + 1) = fitT H m n := by
  show (if fits H m n then _ else _) = _
  rw [h]; rfl
theorem fitT_turn {H : Int → Option Ht} {m : Int} {n b : Nat} {g : Bool} (h : fits H m n = true) (hr : fitT H m n = (b, g)) (hq : g = false ∨ fr H (n : Int) < fr H (b : Int)) : fitT H m (n + 1) = (n, true) := by
  show (if fits H m n then _ else _) = _
  rw [if_pos h, hr]; exact if_pos hq
theorem fitT_stay {H : Int → Option Ht} {m : Int} {n b : Nat} {g : Bool} (h : fits H m n = true) (hr : fitT H m n = (b, g)) (hq : ¬ (g = false ∨ fr H (n : Int) < fr H (b : Int))) : fitT H m (n + 1) = (b, g) := by
  show (if fits H m n then _ else _) = _
  rw [if_pos h, hr]; exact if_neg hq

set_option maxRecDepth 100000 in
set_option maxHeartbeats 3200000 in
theorem h_fit (l : Nat) (H : Int → Option Ht) (m : Int) (w : World) (h : Ho w l H) :
    Calls Try.prog 26 #[.pointer (some ⟨l, 0, none⟩), .int .i64 m] w fun e w' => e = .returned (.tuple #[.int .i64 ((fit H m).1 : Int), .bool (fit H m).2]) ∧ ∃ q, w' = w.drewN q := by
  by_cases h0 : m < 0
  · have d0 : decide (m < 0) = true := decide_eq_true h0
    rw [show fit H m = (0, false) by unfold fit; rw [if_pos h0]]
    clear h0
    go_enter Try.func26, Try.ntmps26
    go_wp2
    go_ret2
    exact ⟨rfl, 0, rfl⟩
  have d0 : decide (m < 0) = false := dec_f h0
  rw [show fit H m = fitT H m 32 by unfold fit; rw [if_neg h0]]
  clear h0
  go_enter Try.func26, Try.ntmps26
  go_wp2_with fail
  go_loopg [6, 7, 11] 32 (fun gk v6 v7 vi wr => ∃ (n b : Nat) (g : Bool), v6 = .int .i64 (b : Int) ∧ v7 = .bool g ∧ vi = .int .i64 (n : Int) ∧ n + gk = 32 ∧ fitT H m n = (b, g) ∧ ∃ q, wr = w.drewN q)
  case atStart => exact ⟨0, 0, false, rfl, rfl, rfl, rfl, rfl, 0, rfl⟩
  case round =>
    obtain ⟨n, b, g, rfl, rfl, rfl, hnk, hT, q0, hwr⟩ := hrel
    have HNK := Lib.hid hnk
    have HT := Lib.hid hT
    have HQ0 := Lib.hid hwr
    have hh0 : Ho wr l H := by rw [hwr]; exact h.drewN _
    clear hT hwr
    by_cases hn : n < 32
    · have hni : (n : Int) < 32 := by omega
      clear hnk
      obtain ⟨r, hr⟩ : ∃ r : Int, fr H (n : Int) = r := ⟨_, rfl⟩
      obtain ⟨r', hr'⟩ : ∃ r : Int, fr H (b : Int) = r := ⟨_, rfl⟩
      have HR := Lib.hid hr
      have HR' := Lib.hid hr'
      clear hr hr'
      cases hu : upB H (n : Int) with
      | false =>
        have HF := Lib.hid (fitT_skip (H := H) (m := m) (n := n) (by unfold fits; rw [hu]; rfl))
        have HU := Lib.hid hu
        clear hu
        go_wp2_with fail
        refine (h_up l H (n : Int) _ hh0).mono ?_
        rintro e w1 ⟨rfl, rfl⟩
        rw [HU.out]
        go_wp2_with fail
        go_roundg (gk - 1)
        case measure => have := HNK.out; omega
        case rel => exact ⟨n + 1, b, g, rfl, rfl, by go_num, by have := HNK.out; omega, HF.out.trans HT.out, _, HQ0.out⟩
      | true =>
        have HU := Lib.hid hu
        by_cases h1 : r < m
        · have HF := Lib.hid (fitT_skip (H := H) (m := m) (n := n) (by unfold fits; rw [hu, HR.out]; simp; omega))
          have d1 : decide (r < m) = true := decide_eq_true h1
          clear hu h1
          go_wp2_with fail
          refine (h_up l H (n : Int) _ hh0).mono ?_
          rintro e w1 ⟨rfl, rfl⟩
          rw [HU.out]
          go_wp2_with fail
          refine (h_free l H (n : Int) _ hh0).mono ?_
          rintro e w1 ⟨rfl, n0, hw1⟩
          rw [HR.out]
          have hh1 : Ho w1 l H := by rw [hw1]; exact hh0.drewN _
          have HW1 := Lib.hid hw1
          clear hw1
          go_wp2_with fail
          go_roundg (gk - 1)
          case measure => have := HNK.out; omega
          case rel => exact ⟨n + 1, b, g, rfl, rfl, by go_num, by have := HNK.out; omega, HF.out.trans HT.out, q0 + n0, by rw [HW1.out, HQ0.out, drewN_two]⟩
        · have HF := Lib.hid (show fits H m n = true by unfold fits; rw [hu, HR.out]; simp; omega)
          have d1 : decide (r < m) = false := dec_f h1
          clear hu h1
          go_wp2_with fail
          refine (h_up l H (n : Int) _ hh0).mono ?_
          rintro e w1 ⟨rfl, rfl⟩
          rw [HU.out]
          go_wp2_with fail
          refine (h_free l H (n : Int) _ hh0).mono ?_
          rintro e w1 ⟨rfl, n0, hw1⟩
          rw [HR.out]
          have hh1 : Ho w1 l H := by rw [hw1]; exact hh0.drewN _
          have HW1 := Lib.hid hw1
          clear hw1
          cases g with
          | false =>
            go_wp2_with fail
            go_roundg (gk - 1)
            case measure => have := HNK.out; omega
            case rel => exact ⟨n + 1, n, true, rfl, rfl, by go_num, by have := HNK.out; omega, fitT_turn HF.out HT.out (Or.inl rfl), q0 + n0, by rw [HW1.out, HQ0.out, drewN_two]⟩
          | true =>
            go_wp2_with fail
            refine (h_free l H (n : Int) _ hh1).mono ?_
            rintro e w2 ⟨rfl, n1, hw2⟩
            rw [HR.out]
            have hh2 : Ho w2 l H := by rw [hw2]; exact hh1.drewN _
            have HW2 := Lib.hid hw2
            clear hw2
            go_wp2_with fail
            refine (h_free l H (b : Int) _ hh2).mono ?_
            rintro e w3 ⟨rfl, n2, hw3⟩
            rw [HR'.out]
            have hh3 : Ho w3 l H := by rw [hw3]; exact hh2.drewN _
            have HW3 := Lib.hid hw3
            clear hw3
            by_cases h2 : r < r'
            · have d2 : decide (r < r') = true := decide_eq_true h2
              have HE := Lib.hid (fitT_turn HF.out HT.out (Or.inr (by rw [HR.out, HR'.out]; exact h2)))
              clear h2
              go_wp2_with fail
              go_roundg (gk - 1)
              case measure => have := HNK.out; omega
              case rel => exact ⟨n + 1, n, true, rfl, rfl, by go_num, by have := HNK.out; omega, HE.out, q0 + (n0 + (n1 + n2)), by rw [HW3.out, HW2.out, HW1.out, HQ0.out, drewN_two, drewN_two, drewN_two]⟩
            · have d2 : decide (r < r') = false := dec_f h2
              have HE := Lib.hid (fitT_stay HF.out HT.out (by rw [HR.out, HR'.out]; simp; omega))
              clear h2
              go_wp2_with fail
              go_roundg (gk - 1)
              case measure => have := HNK.out; omega
              case rel => exact ⟨n + 1, b, true, rfl, rfl, by go_num, by have := HNK.out; omega, HE.out, q0 + (n0 + (n1 + n2)), by rw [HW3.out, HW2.out, HW1.out, HQ0.out, drewN_two, drewN_two, drewN_two]⟩
    · obtain rfl : n = 32 := by omega
      clear hnk hn
      go_wp2_with fail
      go_ret2
      rw [HT.out]
      exact ⟨rfl, q0, HQ0.out⟩

end Go.Proofs.Ythmmobhbakmbpaa.W
