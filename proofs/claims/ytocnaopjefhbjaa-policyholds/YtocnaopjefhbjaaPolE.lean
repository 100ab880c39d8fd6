/- The law PolicyHolds: its walk. -/
import Derived.Test.YtocnaopjefhbjaaPolB
namespace Go.Proofs.Ytocnaopjefhbjaa.W
open Go.RowKit
set_option linter.unusedVariables false

/-- How many lie ahead of a window, and behind it. -/
def eN (p : Int) (xs : List Int) : Nat := xs.countP (fun x => decide (0 ≤ x ∧ x < 240 ∧ x < p))
def lN (en : Int) (xs : List Int) : Nat := xs.countP (fun x => decide (en ≤ x ∧ x < 240))
theorem eN_snoc (p : Int) (xs : List Int) (x : Int) : eN p (xs ++ [x]) = eN p xs + if 0 ≤ x ∧ x < 240 ∧ x < p then 1 else 0 := by
  simp only [eN, List.countP_append, List.countP_singleton, decide_eq_true_eq]
theorem lN_snoc (en : Int) (xs : List Int) (x : Int) : lN en (xs ++ [x]) = lN en xs + if en ≤ x ∧ x < 240 then 1 else 0 := by
  simp only [lN, List.countP_append, List.countP_singleton, decide_eq_true_eq]
theorem eN_cons (p : Int) (xs : List Int) (x : Int) : eN p (x :: xs) = eN p xs + if 0 ≤ x ∧ x < 240 ∧ x < p then 1 else 0 := by
  simp only [eN, List.countP_cons, decide_eq_true_eq]
theorem lN_cons (en : Int) (xs : List Int) (x : Int) : lN en (x :: xs) = lN en xs + if en ≤ x ∧ x < 240 then 1 else 0 := by
  simp only [lN, List.countP_cons, decide_eq_true_eq]
theorem eN_le (p : Int) (xs : List Int) : eN p xs ≤ xs.length := List.countP_le_length
theorem lN_le (en : Int) (xs : List Int) : lN en xs ≤ xs.length := List.countP_le_length
theorem early_sum {p : Int} {a : Nat} (h : p ≤ (a : Int)) : ∀ xs : List Int, eN p xs ≤ sumTo (cnt xs) a
  | [] => by simp [eN]
  | x :: xs => by
    have ih := early_sum h xs
    rw [eN_cons, cnt_cons, sumTo_aF]
    split <;> split <;> omega
theorem late_sum {en : Int} {b : Nat} (h : (b : Int) + 1 ≤ en) (hb : b < 240) : ∀ xs : List Int, lN en xs + sumTo (cnt xs) (b + 1) ≤ sumTo (cnt xs) 240
  | [] => by rw [cnt_nil, sumTo_zero, sumTo_zero]; simp [lN]
  | x :: xs => by
    have ih := late_sum h hb xs
    rw [lN_cons, cnt_cons, sumTo_aF, sumTo_aF]
    split <;> split <;> split <;> omega
theorem early_few {xs : List Int} (h0 : 0 < tot (cnt xs)) : 100 * eN (preC (cutN (cnt xs) 5)) xs ≤ 5 * tot (cnt xs) := by
  obtain ⟨a1, a2, a3⟩ := cutN_ok (F := cnt xs) (P := 5) h0 (by omega)
  have h := early_sum (p := preC (cutN (cnt xs) 5)) (a := cutN (cnt xs) 5) (by unfold preC; omega) xs
  generalize cutN (cnt xs) 5 = a at *
  cases a with
  | zero => simp only [sumTo] at h; omega
  | succ a =>
    have hn := a3 a (Nat.lt_succ_self a)
    unfold okC at hn
    omega
theorem late_few {xs : List Int} (h0 : 0 < tot (cnt xs)) : 100 * lN (endC (cutN (cnt xs) 99)) xs ≤ tot (cnt xs) := by
  obtain ⟨a1, a2, a3⟩ := cutN_ok (F := cnt xs) (P := 99) h0 (by omega)
  have h := late_sum (en := endC (cutN (cnt xs) 99)) (b := cutN (cnt xs) 99) (by unfold endC; omega) a2 xs
  have h2 := a1.2
  unfold tot at h2 ⊢
  omega

set_option maxRecDepth 100000 in
set_option maxHeartbeats 6400000 in
theorem holds_walk (A : Option Addr) (k c : Nat) (xs : List Int) (w : World) (hk : k = xs.length) (hA : Lies w w.heap.size A (ints xs)) (hm : k ≤ 9223372036854775807) :
    Calls Try.prog 5 #[.slice A k c] w fun e w' => e = .returned (.bool true) ∧ Below w.heap.size w w' := by
  have HK := Lib.hid hk
  clear hk
  by_cases h200 : 200 < k
  · go_enter Try.func5, Try.ntmps5
    go_wp2_with fail
    refine (pol_head _).mono ?_
    rintro e w1 ⟨rfl, hb1⟩
    go_wp2_with fail
    go_ret
    exact ⟨rfl, hb1⟩
  clear hm
  go_enter Try.func5, Try.ntmps5
  go_wp2_with fail
  refine (pol_head _).mono ?_
  rintro e w1 ⟨rfl, hb1⟩
  go_wp2_with fail
  refine (list_new _).mono ?_
  rintro e w2 ⟨rfl, hR2, hb2⟩
  obtain ⟨r, hr⟩ : ∃ r, w1.heap.size = r := ⟨_, rfl⟩
  have hrw : w.heap.size ≤ r := by rw [← hr]; exact hb1.size
  have hb3 := hb1.trans (hb2.mono hb1.size)
  rw [hr] at hR2 ⊢
  clear hb1 hb2 hr
  go_wp2_with fail
  refine (ring_new _).mono ?_
  rintro e w3 ⟨rfl, hS3, hb4⟩
  obtain ⟨s, hs⟩ : ∃ s, w2.heap.size = s := ⟨_, rfl⟩
  have hsw : w.heap.size ≤ s := by rw [← hs]; exact hb3.size
  have hrs : r ≠ s := by have := hR2.lt; omega
  have hR3 := hR2.keep hb4 hR2.lt
  have hb5 := hb3.trans (hb4.mono hb3.size)
  rw [hs] at hS3 ⊢
  clear hb3 hb4 hR2 hs
  go_wp2_with fail
  go_loopg [21] k (fun gk vi wr => ∃ i : Nat, vi = .int .i64 (i : Int) ∧ i + gk = k ∧ Hl wr r (xs.take i) ∧ Rg wr s (last8 (xs.take i)) ∧ Below w.heap.size w wr)
  case atStart => exact ⟨0, rfl, by omega, hR3, hS3, hb5⟩
  case round =>
    obtain ⟨i, rfl, hik, hRz, hSz, hbz⟩ := hrel
    have HIK := Lib.hid hik
    clear hR3 hS3 hb5
    by_cases hi : i < k
    · obtain ⟨ad, x, rfl, hblk, hx, hcx⟩ := hA.int (show i < xs.length by rw [← HK.out]; exact hi)
      have hcx' : wr.cell? (ad.add i) = some (.int .i64 x) := by rw [hbz.cell (by rw [blk_add]; exact hblk)]; exact hcx
      have HX := Lib.hid hx
      clear hik hcx hx
      go_wp2_with fail
      refine (list_add r x _ _ hRz (by simp; omega)).mono ?_
      rintro e w5 ⟨rfl, hR5, hg5⟩
      rw [← take_snoc HX.out] at hR5
      have hb5 := below_row hbz hrw hg5 hbz.size
      have hS5 := hSz.off hg5 hrs.symm
      clear hcx' hRz hSz hbz hg5
      go_wp2_with fail
      refine (ring_push s _ x _ hS5).mono ?_
      rintro e w6 ⟨rfl, hS6, hg6⟩
      rw [last8_last, ← take_snoc HX.out] at hS6
      have hb6 := below_row hb5 hsw hg6 hb5.size
      have hR6 := hR5.off hg6 hrs
      clear hR5 hS5 hb5 hg6
      go_wp2_with fail
      go_roundg (gk - 1)
      case measure => have := HIK.out; omega
      case rel => exact ⟨i + 1, by go_num, by have := HIK.out; omega, hR6, hS6, hb6⟩
    · obtain rfl : k = i := by omega
      rw [List.take_of_length_le (by rw [← HK.out]; exact Nat.le_refl _)] at hRz hSz
      have hle := tot_le xs
      rw [← HK.out] at hle
      obtain ⟨T, hT⟩ : ∃ T, tot (cnt xs) = T := ⟨_, rfl⟩
      obtain ⟨o, ho⟩ : ∃ o, cntO xs = o := ⟨_, rfl⟩
      have HT := Lib.hid hT
      have HO := Lib.hid ho
      rw [hT, ho] at hle
      clear hik HIK hi hT ho
      go_wp2_with fail
      refine (of_any r s _ _ _ _ hRz hSz).mono ?_
      rintro e w3 ⟨rfl, hb3⟩
      have hR4 := Hl.keep hRz hb3 hRz.lt
      have hb4 := hbz.trans (hb3.mono hbz.size)
      have hb5 := fun (o : Obj) => hb4.alloc hb4.size o
      clear hRz hSz hbz hb3
      by_cases h4 : T + o < 4
      · rw [win_few (by rw [HT.out, HO.out]; exact h4)]
        go_wp2_with fail
        go_ret
        exact ⟨rfl, hb5 _⟩
      by_cases h2 : T + o < 2 * o
      · rw [win_next (by rw [HT.out, HO.out]; omega) (by rw [HT.out, HO.out]; omega)]
        generalize preN (nextI (last8 xs)) = p
        generalize endN (nextI (last8 xs)) = en
        have hd : (T : Int) + (o : Int) < 2 * (o : Int) := by omega
        go_wp2_with fail
        have hb6 : Below w3.heap.size w3 (w3.alloc (.cells #[.int .i64 2, .int .i64 p, .int .i64 en] 35)) := (Below.refl _ _).alloc (Nat.le_refl _) _
        have hR5 : Hs _ r (cnt xs) (cntO xs) := Hl.keep hR4 hb6 hR4.lt
        have hb7 := hb4.trans (hb6.mono hb4.size)
        generalize w3.alloc (.cells #[.int .i64 2, .int .i64 p, .int .i64 en] 35) = w4 at hR5 hb7 ⊢
        clear hb6 hb5 hb4 hR4
        refine (histo_over r _ _ _ hR5).mono ?_
        rintro e w' ⟨rfl, rfl⟩
        rw [HO.out]
        go_wp2_with fail
        refine (histo_in r _ _ _ hR5).mono ?_
        rintro e w' ⟨rfl, rfl⟩
        rw [HT.out]
        go_wp2_with fail
        refine (histo_over r _ _ _ hR5).mono ?_
        rintro e w' ⟨rfl, rfl⟩
        rw [HO.out]
        go_wp2_with fail
        go_ret
        refine ⟨ret_bool ?_, hb7⟩
        first | rfl | (simp; done) | (simp; omega)
      by_cases h3 : spreadB (cnt xs) = true
      · have h0 : 0 < tot (cnt xs) := by
          unfold spreadB at h3; simp at h3; omega
        have E1 := Lib.hid (early_few h0)
        have E2 := Lib.hid (late_few h0)
        obtain ⟨h, p, en, hwin, hp0, hpe, hpm⟩ := win_form (cnt xs) (cntO xs) (last8 xs)
        have hw2 := win_hist (F := cnt xs) (o := cntO xs) (ys := last8 xs) (by rw [HT.out, HO.out]; omega) (by rw [HT.out, HO.out]; omega) h3
        rw [hw2] at hwin
        simp only [Win, Value.agg.injEq, Array.mk.injEq, List.cons.injEq, Value.int.injEq, true_and, and_true] at hwin
        obtain ⟨rfl, q1, q2⟩ := hwin
        rw [hw2, q1, q2]
        rw [q1, HT.out] at E1
        rw [q2, HT.out] at E2
        clear q1 q2 hw2 h0 h4 h2 h3
        go_wp2_with fail
        have hb6 : Below w3.heap.size w3 (w3.alloc (.cells #[.int .i64 1, .int .i64 p, .int .i64 en] 35)) := (Below.refl _ _).alloc (Nat.le_refl _) _
        have hN := heap_alloc_new w3 (.cells #[.int .i64 1, .int .i64 p, .int .i64 en] 35)
        have hR5 : Hs _ r (cnt xs) (cntO xs) := Hl.keep hR4 hb6 hR4.lt
        have hb7 := hb4.trans (hb6.mono hb4.size)
        obtain ⟨g, hg⟩ : ∃ g, w3.heap.size = g := ⟨_, rfl⟩
        rw [hg] at hN ⊢
        generalize w3.alloc (.cells #[.int .i64 1, .int .i64 p, .int .i64 en] 35) = w4 at hR5 hb7 hN ⊢
        have k1 : w4.cell? ⟨g, 1, none⟩ = some (.int .i64 p) := by rw [cell_of_row w4 g 1 _ _ _ hN]; rfl
        have k2 : w4.cell? ⟨g, 2, none⟩ = some (.int .i64 en) := by rw [cell_of_row w4 g 2 _ _ _ hN]; rfl
        clear hb6 hb5 hb4 hR4 hN hg
        go_loopg [8, 9, 69] k (fun gk ve vl vi wr => ∃ i E L : Nat, vi = .int .i64 (i : Int) ∧ ve = .int .i64 (E : Int) ∧ vl = .int .i64 (L : Int) ∧ i + gk = k ∧ Hid (eN p (xs.take i) = E) ∧ Hid (lN en (xs.take i) = L) ∧ E ≤ 200 ∧ L ≤ 200 ∧ w4 = wr)
        case atStart => exact ⟨0, 0, 0, rfl, rfl, rfl, by omega, (show Hid (eN p (xs.take 0) = 0) from Lib.hid (by simp [eN])), (show Hid (lN en (xs.take 0) = 0) from Lib.hid (by simp [lN])), by omega, by omega, rfl⟩
        case round =>
          obtain ⟨i, E, L, rfl, rfl, rfl, hik, HE, HL, hE200, hL200, rfl⟩ := hrel
          have HIK := Lib.hid hik
          by_cases hi : i < k
          · obtain ⟨ad, x, rfl, hblk, hx, hcx⟩ := hA.int (show i < xs.length by rw [← HK.out]; exact hi)
            have hcx' : w4.cell? (ad.add i) = some (.int .i64 x) := by rw [hb7.cell (by rw [blk_add]; exact hblk)]; exact hcx
            have HX := Lib.hid hx
            have hEi : E ≤ i := by have := eN_le p (xs.take i); rw [HE.out] at this; simp at this; omega
            have hLi : L ≤ i := by have := lN_le en (xs.take i); rw [HL.out] at this; simp at this; omega
            have HE1 : Hid (eN p (xs.take (i + 1)) = E + if 0 ≤ x ∧ x < 240 ∧ x < p then 1 else 0) := Lib.hid (by rw [take_snoc HX.out, eN_snoc, HE.out])
            have HL1 : Hid (lN en (xs.take (i + 1)) = L + if en ≤ x ∧ x < 240 then 1 else 0) := Lib.hid (by rw [take_snoc HX.out, lN_snoc, HL.out])
            clear hik hcx hx HE HL
            by_cases x0 : x < 0
            · have f0 : decide ((0 : Int) ≤ x) = false := by simp; omega
              have f1 : decide (en ≤ x) = false := by simp; omega
              have e1 : Hid (eN p (xs.take (i + 1)) = E + 0) := Lib.hid (by rw [HE1.out, if_neg (by omega)])
              have e2 : Hid (lN en (xs.take (i + 1)) = L + 0) := Lib.hid (by rw [HL1.out, if_neg (by omega)])
              go_wp2_with fail
              go_roundg (gk - 1)
              case measure => have := HIK.out; omega
              case rel => exact ⟨i + 1, E + 0, L + 0, by go_num, by go_num, by go_num, by have := HIK.out; omega, e1, e2, by omega, by omega, rfl⟩
            by_cases x1 : x < 240
            · by_cases x2 : x < p
              · have f0 : decide ((0 : Int) ≤ x) = true := by simp; omega
                have f1 : decide (x < 240) = true := by simp; omega
                have f2 : decide (x < p) = true := by simp; omega
                have f3 : decide (en ≤ x) = false := by simp; omega
                have e1 : Hid (eN p (xs.take (i + 1)) = E + 1) := Lib.hid (by rw [HE1.out, if_pos (by omega)])
                have e2 : Hid (lN en (xs.take (i + 1)) = L + 0) := Lib.hid (by rw [HL1.out, if_neg (by omega)])
                go_wp2_with fail
                go_roundg (gk - 1)
                case measure => have := HIK.out; omega
                case rel => exact ⟨i + 1, E + 1, L + 0, by go_num, by go_num, by go_num, by have := HIK.out; omega, e1, e2, by omega, by omega, rfl⟩
              by_cases x3 : en ≤ x
              · have f0 : decide ((0 : Int) ≤ x) = true := by simp; omega
                have f1 : decide (x < 240) = true := by simp; omega
                have f2 : decide (x < p) = false := by simp; omega
                have f3 : decide (en ≤ x) = true := by simp; omega
                have e1 : Hid (eN p (xs.take (i + 1)) = E + 0) := Lib.hid (by rw [HE1.out, if_neg (by omega)])
                have e2 : Hid (lN en (xs.take (i + 1)) = L + 1) := Lib.hid (by rw [HL1.out, if_pos (by omega)])
                go_wp2_with fail
                go_roundg (gk - 1)
                case measure => have := HIK.out; omega
                case rel => exact ⟨i + 1, E + 0, L + 1, by go_num, by go_num, by go_num, by have := HIK.out; omega, e1, e2, by omega, by omega, rfl⟩
              · have f0 : decide ((0 : Int) ≤ x) = true := by simp; omega
                have f1 : decide (x < 240) = true := by simp; omega
                have f2 : decide (x < p) = false := by simp; omega
                have f3 : decide (en ≤ x) = false := by simp; omega
                have e1 : Hid (eN p (xs.take (i + 1)) = E + 0) := Lib.hid (by rw [HE1.out, if_neg (by omega)])
                have e2 : Hid (lN en (xs.take (i + 1)) = L + 0) := Lib.hid (by rw [HL1.out, if_neg (by omega)])
                go_wp2_with fail
                go_roundg (gk - 1)
                case measure => have := HIK.out; omega
                case rel => exact ⟨i + 1, E + 0, L + 0, by go_num, by go_num, by go_num, by have := HIK.out; omega, e1, e2, by omega, by omega, rfl⟩
            by_cases x3 : en ≤ x
            · have f0 : decide ((0 : Int) ≤ x) = true := by simp; omega
              have f1 : decide (x < 240) = false := by simp; omega
              have f2 : decide (en ≤ x) = true := by simp; omega
              have e1 : Hid (eN p (xs.take (i + 1)) = E + 0) := Lib.hid (by rw [HE1.out, if_neg (by omega)])
              have e2 : Hid (lN en (xs.take (i + 1)) = L + 0) := Lib.hid (by rw [HL1.out, if_neg (by omega)])
              go_wp2_with fail
              go_roundg (gk - 1)
              case measure => have := HIK.out; omega
              case rel => exact ⟨i + 1, E + 0, L + 0, by go_num, by go_num, by go_num, by have := HIK.out; omega, e1, e2, by omega, by omega, rfl⟩
            · have f0 : decide ((0 : Int) ≤ x) = true := by simp; omega
              have f1 : decide (x < 240) = false := by simp; omega
              have f2 : decide (en ≤ x) = false := by simp; omega
              have e1 : Hid (eN p (xs.take (i + 1)) = E + 0) := Lib.hid (by rw [HE1.out, if_neg (by omega)])
              have e2 : Hid (lN en (xs.take (i + 1)) = L + 0) := Lib.hid (by rw [HL1.out, if_neg (by omega)])
              go_wp2_with fail
              go_roundg (gk - 1)
              case measure => have := HIK.out; omega
              case rel => exact ⟨i + 1, E + 0, L + 0, by go_num, by go_num, by go_num, by have := HIK.out; omega, e1, e2, by omega, by omega, rfl⟩
          · obtain rfl : k = i := by omega
            rw [List.take_of_length_le (by rw [← HK.out]; exact Nat.le_refl _)] at HE HL
            rw [HE.out] at E1
            rw [HL.out] at E2
            have i1 : decide ((100 : Int) * (E : Int) ≤ 5 * (T : Int)) = true := by have := E1.out; simp; omega
            have i2 : decide ((100 : Int) * (L : Int) ≤ (T : Int)) = true := by have := E2.out; simp; omega
            clear hik HIK hi HE HL E1 E2
            go_wp2_with fail
            refine (histo_in r _ _ _ hR5).mono ?_
            rintro e w' ⟨rfl, rfl⟩
            rw [HT.out]
            go_wp2_with fail
            refine (histo_in r _ _ _ hR5).mono ?_
            rintro e w' ⟨rfl, rfl⟩
            rw [HT.out]
            go_wp2_with fail
            go_ret
            refine ⟨ret_bool ?_, hb7⟩
            first | rfl | (simp; done) | (simp; omega)
      · rw [win_not (by rw [HT.out, HO.out]; omega) (by rw [HT.out, HO.out]; omega) (by simpa using h3)]
        go_wp2_with fail
        go_ret
        exact ⟨rfl, hb5 _⟩

theorem holds_law (A : Option Addr) (k c : Nat) (xs : List Int) (w : World) (hk : xs.length = k) (hc : k ≤ c) (hm : c ≤ maxLen) (hA : Lies w w.heap.size A (ints xs)) :
    Calls Try.prog 5 #[.slice A k c] w fun e w' => e = .returned (.bool true) ∧ Below w.heap.size w w' := by
  simp only [maxLen] at hm
  exact holds_walk A k c xs w hk.symm hA (by omega)
end Go.Proofs.Ytocnaopjefhbjaa.W
