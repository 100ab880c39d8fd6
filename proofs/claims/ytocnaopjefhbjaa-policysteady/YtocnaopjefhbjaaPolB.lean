/- Contracts of the law's own window, and of the document's example. -/
import Derived.Test.YtocnaopjefhbjaaPolA
namespace Go.Proofs.Ytocnaopjefhbjaa.W
open Go.RowKit
set_option linter.unusedVariables false

theorem rep4 : win (cnt (List.replicate 4 20)) (cntO (List.replicate 4 20)) (last8 (List.replicate 4 20)) = Win 1 18 24 := by
  have h1 : tot (cnt (List.replicate 4 20)) = 4 := rep_tot 4 20
  have h2 : cntO (List.replicate 4 20) = 0 := rep_over 4 20
  have h3 : spreadB (cnt (List.replicate 4 20)) = true := by decide +kernel
  rw [win_hist (by omega) (by omega) h3, show cutN (cnt (List.replicate 4 20)) 5 = 20 from rep_cut (n := 4) (t := 20) (by omega) (by omega) (by omega), show cutN (cnt (List.replicate 4 20)) 99 = 20 from rep_cut (n := 4) (t := 20) (by omega) (by omega) (by omega)]
  rfl
theorem win_none : win (cnt []) (cntO []) [] = Win 0 0 10 := win_few (by rw [cnt_nil, cntO_nil, tot, sumTo_zero]; omega)

set_option maxRecDepth 100000 in
set_option maxHeartbeats 1600000 in
theorem pol_head (w : World) : Calls Try.prog 8 #[] w fun e w' => e = .returned (.bool true) ∧ Below w.heap.size w w' := by
  go_enter Try.func8, Try.ntmps8
  go_wp2_with fail
  refine (list_new _).mono ?_
  rintro e w1 ⟨rfl, hR1, hb1⟩
  obtain ⟨r, hr⟩ : ∃ r, w.heap.size = r := ⟨_, rfl⟩
  have hrw : w.heap.size ≤ r := by omega
  rw [hr] at hR1 ⊢
  go_wp2_with fail
  refine (ring_new _).mono ?_
  rintro e w2 ⟨rfl, hS2, hb2⟩
  obtain ⟨s, hs⟩ : ∃ s, w1.heap.size = s := ⟨_, rfl⟩
  have hsw : w.heap.size ≤ s := by rw [← hs]; exact hb1.size
  have hrs : r ≠ s := by have := hR1.lt; omega
  have hR2 := hR1.keep hb2 hR1.lt
  have hb3 := hb1.trans (hb2.mono hb1.size)
  rw [hs] at hS2 ⊢
  clear hb1 hb2 hR1 hr hs
  go_wp2_with fail
  go_loopg [3] 4 (fun gk vi wr => ∃ i : Nat, vi = .int .i64 (i : Int) ∧ i + gk = 4 ∧ Hl wr r (List.replicate i 20) ∧ Rg wr s (last8 (List.replicate i 20)) ∧ Below w.heap.size w wr)
  case atStart => exact ⟨0, rfl, rfl, hR2, hS2, hb3⟩
  case round =>
    obtain ⟨i, rfl, hik, hRz, hSz, hbz⟩ := hrel
    have HIK := Lib.hid hik
    clear hR2 hS2 hb3
    by_cases hi : i < 4
    · clear hik
      go_wp2_with fail
      refine (list_add r 20 _ _ hRz (by simp; omega)).mono ?_
      rintro e w3 ⟨rfl, hR3, hg3⟩
      rw [rep_snoc] at hR3
      have hb4 := below_row hbz hrw hg3 hbz.size
      have hS3 := hSz.off hg3 hrs.symm
      clear hRz hSz hbz hg3
      go_wp2_with fail
      refine (ring_push s _ 20 _ hS3).mono ?_
      rintro e w4 ⟨rfl, hS4, hg4⟩
      rw [last8_last, rep_snoc] at hS4
      have hb5 := below_row hb4 hsw hg4 hb4.size
      have hR4 := hR3.off hg4 hrs
      clear hR3 hS3 hb4 hg4
      go_wp2_with fail
      go_roundg (gk - 1)
      case measure => have := HIK.out; omega
      case rel => exact ⟨i + 1, by go_num, by have := HIK.out; omega, hR4, hS4, hb5⟩
    · obtain rfl : i = 4 := by omega
      clear hik HIK hi
      go_wp2_with fail
      refine (of_any r s _ _ _ _ hRz hSz).mono ?_
      rintro e w3 ⟨rfl, hb3⟩
      rw [rep4]
      have hb4 := hbz.trans (hb3.mono hbz.size)
      clear hRz hSz hbz hb3
      go_wp2_with fail
      refine (list_new _).mono ?_
      rintro e w5 ⟨rfl, hR5, hb5⟩
      obtain ⟨q, hq⟩ : ∃ q, w3.heap.size = q := ⟨_, rfl⟩
      rw [hq] at hR5 ⊢
      have hb6 := hb4.trans (hb5.mono hb4.size)
      clear hb4 hb5 hq
      go_wp2_with fail
      refine (ring_new _).mono ?_
      rintro e w6 ⟨rfl, hS6, hb7⟩
      obtain ⟨t, ht⟩ : ∃ t, w5.heap.size = t := ⟨_, rfl⟩
      rw [ht] at hS6 ⊢
      have hR6 := hR5.keep hb7 hR5.lt
      have hb8 := hb6.trans (hb7.mono hb6.size)
      clear hb6 hb7 ht hR5
      go_wp2_with fail
      refine (of_any q t _ _ _ _ hR6 hS6).mono ?_
      rintro e w7 ⟨rfl, hb9⟩
      rw [win_none]
      have hb10 := hb8.trans (hb9.mono hb8.size)
      clear hR6 hS6 hb8 hb9
      go_wp2_with fail
      go_ret
      exact ⟨rfl, hb10⟩

theorem below_lies {w w1 : World} {B : Nat} {A : Option Addr} {vs : List Value} (h : Lies w B A vs) (hb : Below w.heap.size w w1) (hB : B ≤ w.heap.size) : Lies w1 B A vs := h.below hb hB

set_option maxRecDepth 100000 in
set_option maxHeartbeats 1600000 in
theorem lawOf_few (r o B k c : Nat) (A : Option Addr) (F : Nat → Nat) (xs : List Int) (w : World) (h : Md w r F o) (hk : k = xs.length) (hk8 : k ≤ 8) (hA : Lies w B A (ints xs)) (hB : B ≤ w.heap.size) (hf : tot F + o < 4) :
    Calls Try.prog 15 #[.pointer (some ⟨r, 0, none⟩), .slice A k c] w fun e w' => e = .returned (Win 0 0 10) ∧ Below w.heap.size w w' := by
  obtain ⟨T, hT⟩ : ∃ T, tot F = T := ⟨_, rfl⟩
  have hlt := h.1
  rw [hT] at hlt hf
  have HT := Lib.hid hT
  have HK := Lib.hid hk
  clear hT hk
  have hw : IntKind.i64.wrap ((T : Int) + (o : Int)) = (T : Int) + (o : Int) := wrap_small (by omega) (by omega)
  have hfi : (T : Int) + (o : Int) < 4 := by omega
  have hgi : decide ((4 : Int) ≤ (T : Int) + (o : Int)) = false := by simp; omega
  go_enter Try.func15, Try.ntmps15
  go_wp2_with fail
  have hN := newW w
  have h1 := h.keep hN.2 h.lt
  have hA1 := hA.below hN.2 hB
  generalize w.alloc _ = w1 at hN h1 hA1 ⊢
  have c1 := h1.cellOver
  have HIN : Hid (∀ W : World, Md W r F o → Calls Try.prog 21 #[.pointer (some ⟨r, 0, none⟩)] W fun e w' => e = .returned (.int .i64 (T : Int)) ∧ w' = W) := Lib.hid (by
    intro W hW
    have := quiet_eq (model_in r o _ W hW)
    rw [HT.out] at this
    exact this)
  clear h hA
  go_quiet ((go_at_call 21; exact Calls.quiet_of_same (HIN.out _ (h1.drewN _))))
  have hN1 := hN.drewN nq
  have h2 := h1.drewN nq
  have hA2 : Lies (w1.drewN nq) B A (ints xs) := hA1
  have c2 : (w1.drewN nq).cell? ⟨r, 240, none⟩ = some (.int .i64 (o : Int)) := c1
  generalize w1.drewN nq = w2 at hN1 h2 hA2 c2 ⊢
  clear hN h1 hA1 HIN c1 hw
  have HW := Lib.hid hN1.1
  go_wp2_with (with_reducible refine wpList_store_win rfl (.tmp 4) (.tmp 55) rfl w.heap.size 0 0 10 rfl rfl 0 0 0 HW ?_; intro w4 HG hg4)
  exact bodyPost_ret (ret_win (fn := Try.f15) rfl rfl HG) rfl ⟨rfl, hN1.done hg4⟩

set_option maxRecDepth 100000 in
set_option maxHeartbeats 1600000 in
theorem lawOf_next (r o B k c : Nat) (A : Option Addr) (F : Nat → Nat) (xs : List Int) (w : World) (h : Md w r F o) (hk : k = xs.length) (hk8 : k ≤ 8) (hA : Lies w B A (ints xs)) (hB : B ≤ w.heap.size) (hf : 4 ≤ tot F + o) (hn : tot F + o < 2 * o) :
    Calls Try.prog 15 #[.pointer (some ⟨r, 0, none⟩), .slice A k c] w fun e w' => e = .returned (Win 2 (preN (nextI xs)) (endN (nextI xs))) ∧ Below w.heap.size w w' := by
  obtain ⟨T, hT⟩ : ∃ T, tot F = T := ⟨_, rfl⟩
  have hlt := h.1
  rw [hT] at hlt hf hn
  have HT := Lib.hid hT
  have HK := Lib.hid hk
  clear hT hk
  have hw : IntKind.i64.wrap ((T : Int) + (o : Int)) = (T : Int) + (o : Int) := wrap_small (by omega) (by omega)
  have hfi : decide ((4 : Int) ≤ (T : Int) + (o : Int)) = true := by simp; omega
  have hni : decide ((T : Int) + (o : Int) < 2 * (o : Int)) = true := by simp; omega
  go_enter Try.func15, Try.ntmps15
  go_wp2_with fail
  have hN := newW w
  have h1 := h.keep hN.2 h.lt
  have hA1 := hA.below hN.2 hB
  generalize w.alloc _ = w1 at hN h1 hA1 ⊢
  have c1 := h1.cellOver
  have HIN : Hid (∀ W : World, Md W r F o → Calls Try.prog 21 #[.pointer (some ⟨r, 0, none⟩)] W fun e w' => e = .returned (.int .i64 (T : Int)) ∧ w' = W) := Lib.hid (by
    intro W hW
    have := quiet_eq (model_in r o _ W hW)
    rw [HT.out] at this
    exact this)
  clear h hA
  go_quiet ((go_at_call 21; exact Calls.quiet_of_same (HIN.out _ (h1.drewN _))))
  have hN1 := hN.drewN nq
  have h2 := h1.drewN nq
  have hA2 : Lies (w1.drewN nq) B A (ints xs) := hA1
  have c2 : (w1.drewN nq).cell? ⟨r, 240, none⟩ = some (.int .i64 (o : Int)) := c1
  generalize w1.drewN nq = w2 at hN1 h2 hA2 c2 ⊢
  clear hN h1 hA1 HIN c1 hw
  go_wp2_with fail
  refine (lawNext_few A B k c xs _ HK.out hk8 hA2).mono ?_
  rintro e w' ⟨rfl, j, rfl⟩
  have hN2 := hN1.drewN j
  generalize w2.drewN j = w3 at hN2 ⊢
  clear hN1 h2 hA2 c2 hfi hni
  obtain ⟨n0, n1⟩ := next_range xs
  obtain ⟨n, hn'⟩ : ∃ n, nextI xs = n := ⟨_, rfl⟩
  rw [hn'] at n0 n1 ⊢
  have HNN := Lib.hid hn'
  have HW := Lib.hid hN2.1
  clear hn' hk8 hB hf hn hlt
  by_cases hz : n = 0
  · subst hz
    go_wp2_with (with_reducible refine wpList_store_win rfl (.tmp 4) (.tmp 47) rfl w.heap.size 2 0 1 rfl rfl 0 0 0 HW ?_; intro w4 HG hg4)
    exact bodyPost_ret (ret_win (fn := Try.f15) rfl rfl HG) rfl ⟨by rw [HNN.out]; rfl, hN2.done hg4⟩
  · have hle : decide ((n * 115 + 99) / 100 ≤ n * 85 / 100) = false := by simp; omega
    have E1 : Hid (preN n = n * 85 / 100) := Lib.hid rfl
    have E2 : Hid (endN n = (n * 115 + 99) / 100) := Lib.hid (by unfold endN; omega)
    go_wp2_with (with_reducible refine wpList_store_win rfl (.tmp 4) (.tmp 47) rfl w.heap.size 2 (n * 85 / 100) ((n * 115 + 99) / 100) rfl rfl 0 0 0 HW ?_; intro w4 HG hg4)
    exact bodyPost_ret (ret_win (fn := Try.f15) rfl rfl HG) rfl ⟨by rw [HNN.out, E1.out, E2.out], hN2.done hg4⟩

set_option maxRecDepth 100000 in
set_option maxHeartbeats 1600000 in
theorem lawOf_not (r o B k c : Nat) (A : Option Addr) (F : Nat → Nat) (xs : List Int) (w : World) (h : Md w r F o) (hk : k = xs.length) (hk8 : k ≤ 8) (hA : Lies w B A (ints xs)) (hB : B ≤ w.heap.size) (hf : 4 ≤ tot F + o) (hn : 2 * o ≤ tot F + o) (hs : spreadB F = false) :
    Calls Try.prog 15 #[.pointer (some ⟨r, 0, none⟩), .slice A k c] w fun e w' => e = .returned (Win 0 0 10) ∧ Below w.heap.size w w' := by
  obtain ⟨T, hT⟩ : ∃ T, tot F = T := ⟨_, rfl⟩
  have hlt := h.1
  rw [hT] at hlt hf hn
  have HT := Lib.hid hT
  have HK := Lib.hid hk
  clear hT hk
  have hw : IntKind.i64.wrap ((T : Int) + (o : Int)) = (T : Int) + (o : Int) := wrap_small (by omega) (by omega)
  have hfi : decide ((4 : Int) ≤ (T : Int) + (o : Int)) = true := by simp; omega
  have hni : decide ((T : Int) + (o : Int) < 2 * (o : Int)) = false := by simp; omega
  have hgi : decide ((T : Int) + (o : Int) < 4) = false := by simp; omega
  have HS := Lib.hid hs
  clear hs
  go_enter Try.func15, Try.ntmps15
  go_wp2_with fail
  have hN := newW w
  have h1 := h.keep hN.2 h.lt
  have hA1 := hA.below hN.2 hB
  generalize w.alloc _ = w1 at hN h1 hA1 ⊢
  have c1 := h1.cellOver
  have HIN : Hid (∀ W : World, Md W r F o → Calls Try.prog 21 #[.pointer (some ⟨r, 0, none⟩)] W fun e w' => e = .returned (.int .i64 (T : Int)) ∧ w' = W) := Lib.hid (by
    intro W hW
    have := quiet_eq (model_in r o _ W hW)
    rw [HT.out] at this
    exact this)
  clear h hA
  go_quiet ((go_at_call 21; exact Calls.quiet_of_same (HIN.out _ (h1.drewN _))))
  have hN1 := hN.drewN nq
  have h2 := h1.drewN nq
  have hA2 : Lies (w1.drewN nq) B A (ints xs) := hA1
  have c2 : (w1.drewN nq).cell? ⟨r, 240, none⟩ = some (.int .i64 (o : Int)) := c1
  generalize w1.drewN nq = w2 at hN1 h2 hA2 c2 ⊢
  clear hN h1 hA1 HIN c1 hw
  go_wp2_with fail
  refine (model_spread r _ _ _ h2).mono ?_
  rintro e w' ⟨rfl, rfl⟩
  rw [HS.out]
  have HW := Lib.hid hN1.1
  go_wp2_with (with_reducible refine wpList_store_win rfl (.tmp 4) (.tmp 55) rfl w.heap.size 0 0 10 rfl rfl 0 0 0 HW ?_; intro w4 HG hg4)
  exact bodyPost_ret (ret_win (fn := Try.f15) rfl rfl HG) rfl ⟨rfl, hN1.done hg4⟩

set_option maxRecDepth 100000 in
set_option maxHeartbeats 1600000 in
theorem lawOf_hist (r o B k c : Nat) (A : Option Addr) (F : Nat → Nat) (xs : List Int) (w : World) (h : Md w r F o) (hk : k = xs.length) (hk8 : k ≤ 8) (hA : Lies w B A (ints xs)) (hB : B ≤ w.heap.size) (hf : 4 ≤ tot F + o) (hn : 2 * o ≤ tot F + o) (hs : spreadB F = true) :
    Calls Try.prog 15 #[.pointer (some ⟨r, 0, none⟩), .slice A k c] w fun e w' => e = .returned (Win 1 (preC (cutN F 5)) (endC (cutN F 99))) ∧ Below w.heap.size w w' := by
  obtain ⟨T, hT⟩ : ∃ T, tot F = T := ⟨_, rfl⟩
  have hlt := h.1
  rw [hT] at hlt hf hn
  have HT := Lib.hid hT
  have HK := Lib.hid hk
  clear hT hk
  have hw : IntKind.i64.wrap ((T : Int) + (o : Int)) = (T : Int) + (o : Int) := wrap_small (by omega) (by omega)
  have hfi : decide ((4 : Int) ≤ (T : Int) + (o : Int)) = true := by simp; omega
  have hni : decide ((T : Int) + (o : Int) < 2 * (o : Int)) = false := by simp; omega
  have hgi : decide ((T : Int) + (o : Int) < 4) = false := by simp; omega
  have HS := Lib.hid hs
  obtain ⟨a, ha⟩ : ∃ a, cutN F 5 = a := ⟨_, rfl⟩
  obtain ⟨b, hb⟩ : ∃ b, cutN F 99 = b := ⟨_, rfl⟩
  have ha1 : a < 240 := by rw [← ha]; exact cut_lt F 5
  have hb1 : b < 240 := by rw [← hb]; exact cut_lt F 99
  have HA := Lib.hid ha
  have HB := Lib.hid hb
  obtain ⟨d, hd⟩ : ∃ d, decide (0 < tot F) = d := ⟨_, rfl⟩
  have HD := Lib.hid hd
  clear hs ha hb hd
  go_enter Try.func15, Try.ntmps15
  go_wp2_with fail
  have hN := newW w
  have h1 := h.keep hN.2 h.lt
  have hA1 := hA.below hN.2 hB
  generalize w.alloc _ = w1 at hN h1 hA1 ⊢
  have c1 := h1.cellOver
  have HIN : Hid (∀ W : World, Md W r F o → Calls Try.prog 21 #[.pointer (some ⟨r, 0, none⟩)] W fun e w' => e = .returned (.int .i64 (T : Int)) ∧ w' = W) := Lib.hid (by
    intro W hW
    have := quiet_eq (model_in r o _ W hW)
    rw [HT.out] at this
    exact this)
  clear h hA
  go_quiet ((go_at_call 21; exact Calls.quiet_of_same (HIN.out _ (h1.drewN _))))
  have hN1 := hN.drewN nq
  have h2 := h1.drewN nq
  have hA2 : Lies (w1.drewN nq) B A (ints xs) := hA1
  have c2 : (w1.drewN nq).cell? ⟨r, 240, none⟩ = some (.int .i64 (o : Int)) := c1
  generalize w1.drewN nq = w2 at hN1 h2 hA2 c2 ⊢
  clear hN h1 hA1 HIN c1 hw
  go_wp2_with fail
  refine (model_spread r _ _ _ h2).mono ?_
  rintro e w' ⟨rfl, rfl⟩
  rw [HS.out]
  go_wp2_with fail
  refine (model_cut r o 5 _ _ h2 (by omega)).mono ?_
  rintro e w' ⟨rfl, rfl⟩
  rw [HA.out, HD.out]
  go_wp2_with fail
  refine (model_cut r o 99 _ _ h2 (by omega)).mono ?_
  rintro e w' ⟨rfl, rfl⟩
  rw [HB.out, HD.out]
  have HW := Lib.hid hN1.1
  have E1 : Hid (preC a = (a : Int) * 9 / 10) := Lib.hid rfl
  have E2 : Hid (endC b = ((b : Int) * 11 + 11 + 9) / 10) := Lib.hid (by unfold endC; omega)
  go_wp2_with (with_reducible refine wpList_store_win rfl (.tmp 4) (.tmp 74) rfl w.heap.size 1 ((a : Int) * 9 / 10) (((b : Int) * 11 + 11 + 9) / 10) rfl rfl 0 0 0 HW ?_; intro w4 HG hg4)
  exact bodyPost_ret (ret_win (fn := Try.f15) rfl rfl HG) rfl ⟨by rw [HA.out, HB.out, E1.out, E2.out], hN1.done hg4⟩

theorem lawOf_any (r o B k c : Nat) (A : Option Addr) (F : Nat → Nat) (xs : List Int) (w : World) (h : Md w r F o) (hk : k = xs.length) (hk8 : k ≤ 8) (hA : Lies w B A (ints xs)) (hB : B ≤ w.heap.size) :
    Calls Try.prog 15 #[.pointer (some ⟨r, 0, none⟩), .slice A k c] w fun e w' => e = .returned (win F o xs) ∧ Below w.heap.size w w' := by
  by_cases h1 : tot F + o < 4
  · rw [win_few h1]; exact lawOf_few r o B k c A F xs w h hk hk8 hA hB h1
  by_cases h2 : tot F + o < 2 * o
  · rw [win_next (by omega) h2]; exact lawOf_next r o B k c A F xs w h hk hk8 hA hB (by omega) h2
  by_cases h3 : spreadB F = true
  · rw [win_hist (by omega) (by omega) h3]; exact lawOf_hist r o B k c A F xs w h hk hk8 hA hB (by omega) (by omega) h3
  · rw [win_not (by omega) (by omega) (by simpa using h3)]; exact lawOf_not r o B k c A F xs w h hk hk8 hA hB (by omega) (by omega) (by simpa using h3)
end Go.Proofs.Ytocnaopjefhbjaa.W
