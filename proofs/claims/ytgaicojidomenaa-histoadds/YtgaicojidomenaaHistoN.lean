/- The law HistoAdds: its walk. -/
import Derived.Test.YtgaicojidomenaaHistoL
namespace Go.Proofs.Ytgaicojidomenaa.W
open Go.RowKit

set_option maxRecDepth 100000 in
set_option maxHeartbeats 1600000 in
theorem model_same (r s o : Nat) (F : Nat → Nat) (w : World) (hM : Md w r F o) (hS : Hs w s F o) :
    Calls Try.prog 20 #[.pointer (some ⟨r, 0, none⟩), .pointer (some ⟨s, 0, none⟩)] w fun e w' => e = .returned (.bool true) ∧ Below w.heap.size w w' := by
  obtain ⟨T, hT⟩ : ∃ T, tot F = T := ⟨_, rfl⟩
  have HT := Lib.hid hT
  clear hT
  go_enter Try.func20, Try.ntmps20
  go_wp2_with fail
  refine (counts_any s _ _ _ hS).mono ?_
  rintro e w1 ⟨g, rfl, own, hb1⟩
  have hM1 := hM.keep hb1 hM.lt
  have hS1 := hS.keep hb1 hS.lt
  have L1 : Hid (∀ j, j < 240 → w1.cell? ⟨g, j, none⟩ = some (.int .i64 (F j : Int))) := Lib.hid fun j hj => own_bins own hj
  have HB1 := Lib.hid hb1
  have c0 := hM1.cellOver
  have q1 : Hid (∀ W : World, Hs W s F o → Calls Try.prog 23 #[.pointer (some ⟨s, 0, none⟩)] W fun e w' => e = .returned (.int .i64 (T : Int)) ∧ w' = W) := Lib.hid (by
    intro W hW
    have := quiet_eq (histo_in s _ _ W hW)
    rw [HT.out] at this
    exact this)
  have q2 : Hid (∀ W : World, Md W r F o → Calls Try.prog 34 #[.pointer (some ⟨r, 0, none⟩)] W fun e w' => e = .returned (.int .i64 (T : Int)) ∧ w' = W) := Lib.hid (by
    intro W hW
    have := quiet_eq (model_in r _ _ W hW)
    rw [HT.out] at this
    exact this)
  have q3 : Hid (∀ W : World, Hs W s F o → Calls Try.prog 24 #[.pointer (some ⟨s, 0, none⟩)] W fun e w' => e = .returned (.int .i64 (o : Int)) ∧ w' = W) := Lib.hid (by
    intro W hW
    exact quiet_eq (histo_over s _ _ W hW))
  have hTT : ((T : Int) != (T : Int)) = false := by simp
  clear own hb1 hM hS
  go_wp2_with fail
  go_quiet ((first
    | (go_at_call 23; exact Calls.quiet_of_same (q1.out _ (hS1.drewN _)))
    | (go_at_call 34; exact Calls.quiet_of_same (q2.out _ (hM1.drewN _)))
    | (go_at_call 24; exact Calls.quiet_of_same (q3.out _ (hS1.drewN _)))))
  have hM2 := hM1.drewN nq
  have hS2 := hS1.drewN nq
  have L2 : Hid (∀ j, j < 240 → (w1.drewN nq).cell? ⟨g, j, none⟩ = some (.int .i64 (F j : Int))) := L1
  have hb2 := below_drewN HB1.out nq
  generalize w1.drewN nq = w2 at hM2 hS2 L2 hb2 ⊢
  have H := Lib.hid hM2.2
  clear q1 q2 q3 c0 hM1 hS1 L1 HB1 hTT
  go_wp2_with (with_reducible refine wpList_load_head rfl 28 (.tmp 31) rfl r rfl (bins F) _ _ _ 240 3 H.out Try.underlying28 (by rw [bins_len]; exact sizeRow) ?_)
  go_loopg [33] 240 (fun gk vi wr => ∃ j : Nat, vi = .int .i64 (j : Int) ∧ j + gk = 240 ∧ w2 = wr)
  case atStart => exact ⟨0, rfl, rfl, rfl⟩
  case round =>
    obtain ⟨j, rfl, hjk, rfl⟩ := hrel
    have HJK := Lib.hid hjk
    clear hjk
    by_cases hj : j < 240
    · have a1 := L2.out j hj
      have hb := bins_at F hj
      have hbin := histo_bin s o j F w2 hS2 hj
      obtain ⟨f, hf⟩ : ∃ f, F j = f := ⟨_, rfl⟩
      rw [hf] at a1 hb hbin
      have HB := Lib.hid hb
      have HBIN := Lib.hid hbin
      clear hb hbin hf
      have hjm : (j : Int) < 240 := by omega
      have hff : ((f : Int) != (f : Int)) = false := by simp
      go_wp2_with (with_reducible refine wpList_index_cell rfl 28 (.tmp 32) (.tmp 33) rfl 240 3 Try.underlying28 _ Try.underlying3 rfl sizeInt (bins F) rfl .i64 j rfl hj (.int .i64 (f : Int)) HB.out ?_)
      refine HBIN.out.mono ?_
      rintro e w3 ⟨rfl, rfl⟩
      go_wp2_with fail
      go_roundg (gk - 1)
      case measure => have := HJK.out; omega
      case rel => exact ⟨j + 1, by go_num, by have := HJK.out; omega, rfl⟩
    · obtain rfl : j = 240 := by have := HJK.out; omega
      go_wp2_with fail
      refine (histo_bin_out s (-1) _ (Or.inl rfl)).mono ?_
      rintro e w3 ⟨rfl, rfl⟩
      go_wp2_with fail
      refine (histo_bin_out s 240 _ (Or.inr rfl)).mono ?_
      rintro e w3 ⟨rfl, rfl⟩
      go_wp2_with fail
      go_ret
      exact ⟨rfl, hb2⟩

theorem built_model : Try.prog.built 30 [] = some (List.replicate 241 (.int .i64 0)).toArray := by kernel_rfl
set_option maxRecDepth 100000 in
theorem model_zero : List.replicate 241 (Value.int .i64 0) = bins (fun _ => 0) ++ [Value.int .i64 ((0 : Nat) : Int)] := by rw [bins_zero]; rfl

set_option maxRecDepth 100000 in
set_option maxHeartbeats 3200000 in
theorem adds_walk (A0 A1 : Option Addr) (k0 k1 c0 c1 : Nat) (xs ys : List Int) (p : Int) (w : World) (hk0 : k0 = xs.length) (hk1 : k1 = ys.length)
    (hA0 : Lies w w.heap.size A0 (ints xs)) (hA1 : Lies w w.heap.size A1 (ints ys)) (hm0 : k0 ≤ 9223372036854775807) (hm1 : k1 ≤ 9223372036854775807) :
    Calls Try.prog 3 #[.slice A0 k0 c0, .slice A1 k1 c1, .int .i64 p] w fun e w' => e = .returned (.bool true) ∧ Below w.heap.size w w' := by
  have HK0 := Lib.hid hk0
  have HK1 := Lib.hid hk1
  clear hk0 hk1
  by_cases h0 : 40 < k0
  · go_enter Try.func3, Try.ntmps3
    go_wp2_with fail
    refine (histo_head _).mono ?_
    rintro e w1 ⟨rfl, hb1⟩
    go_wp2_with fail
    go_ret
    exact ⟨rfl, hb1⟩
  by_cases h1 : 40 < k1
  · go_enter Try.func3, Try.ntmps3
    go_wp2_with fail
    refine (histo_head _).mono ?_
    rintro e w1 ⟨rfl, hb1⟩
    go_wp2_with fail
    go_ret
    exact ⟨rfl, hb1⟩
  clear hm0 hm1
  obtain ⟨C, hC⟩ : ∃ C, (List.replicate 241 (Value.int .i64 0)).toArray = C := ⟨_, rfl⟩
  have HC := Lib.hid hC
  clear hC
  go_enter Try.func3, Try.ntmps3
  go_wp2_with fail
  refine (histo_head _).mono ?_
  rintro e w1 ⟨rfl, hb1⟩
  go_wp2_with fail
  refine (histo_new _).mono ?_
  rintro e w2 ⟨rfl, hR2, hb2⟩
  obtain ⟨r, hr⟩ : ∃ r, w1.heap.size = r := ⟨_, rfl⟩
  have hb3 := hb1.trans (hb2.mono hb1.size)
  have hrw : w.heap.size ≤ r := by rw [← hr]; exact hb1.size
  rw [hr] at hR2 ⊢
  clear hb1 hb2 hr
  go_wp2_with (first
    | (with_reducible refine wpList_build_zero rfl 30 rfl C (by rw [← HC.out]; exact built_model) ?_)
    | (with_reducible refine wpList_box_agg rfl 30 (.tmp 29) rfl C rfl ?_))
  obtain ⟨s, hs⟩ : ∃ s, w2.heap.size = s := ⟨_, rfl⟩
  have hrs : r ≠ s := by have := hR2.lt; omega
  have hsw : w.heap.size ≤ s := by rw [← hs]; exact hb3.size
  have hM3 : Md (w2.alloc (.cells C 30)) s (fun _ => 0) 0 := ⟨by rw [tot, sumTo_zero]; omega, by rw [← hs, heap_alloc_new, ← HC.out, model_zero]⟩
  have hb4 : Below w.heap.size w (w2.alloc (.cells C 30)) := hb3.alloc hb3.size _
  have hR3 : Hs (w2.alloc (.cells C 30)) r (fun _ => 0) 0 := ⟨hR2.1, by rw [Below.heap_alloc _ _ _ hR2.lt]; exact hR2.2⟩
  rw [hs]
  generalize w2.alloc (.cells C 30) = w3 at hM3 hb4 hR3 ⊢
  clear hb3 hR2 hs HC
  go_loopg [33] k0 (fun gk vi wr => ∃ (i : Nat) (F : Nat → Nat) (o : Nat), vi = .int .i64 (i : Int) ∧ i + gk = k0 ∧ Hs wr r F o ∧ Md wr s F o ∧ Hid (tot F + o ≤ 63 * i) ∧ Below w.heap.size w wr)
  case atStart => exact ⟨0, fun _ => 0, 0, rfl, by omega, hR3, hM3, Lib.hid (by rw [tot, sumTo_zero]; omega), hb4⟩
  case round =>
    obtain ⟨i, F, o, rfl, hik, hR, hM, HL, hbz⟩ := hrel
    have HIK := Lib.hid hik
    clear hR3 hM3 hb4
    by_cases hi : i < k0
    · obtain ⟨ad, x, rfl, hblk, hx, hcx⟩ := hA0.int (show i < xs.length by rw [← HK0.out]; exact hi)
      have hcx' : wr.cell? (ad.add i) = some (.int .i64 x) := by rw [hbz.cell (by rw [blk_add]; exact hblk)]; exact hcx
      clear hik hcx hx
      by_cases hof : i < k1
      · obtain ⟨ad1, y, rfl, hblk1, hy, hcy⟩ := hA1.int (show i < ys.length by rw [← HK1.out]; exact hof)
        have hcy' : wr.cell? (ad1.add i) = some (.int .i64 y) := by rw [hbz.cell (by rw [blk_add]; exact hblk1)]; exact hcy
        obtain ⟨nv, hnv, hnv1⟩ := and_nat y 63 6 64 (by decide) (by decide) (by decide)
        clear hy hcy
        go_wp2_with fail
        clear hcx' hcy' hnv
        go_loopg [12] nv (fun gk vj wr => ∃ (j : Nat) (G : Nat → Nat) (u : Nat), vj = .int .i64 (j : Int) ∧ j + gk = nv ∧ Hs wr r G u ∧ Md wr s G u ∧ Hid (tot G + u ≤ 63 * i + j) ∧ Below w.heap.size w wr)
        case atStart => exact ⟨0, F, o, rfl, by omega, hR, hM, HL, hbz⟩
        case round =>
          clear hR hM hbz HL
          obtain ⟨j, G, u, rfl, hjk, hR, hM, HL, hbz⟩ := hrel
          have HJK := Lib.hid hjk
          by_cases hj : j < nv
          · clear hjk
            go_wp2_with fail
            refine (add_low r u x _ _ hR (by have := HL.out; omega)).mono ?_
            rintro e w4 ⟨rfl, hR4, hg4⟩
            have hb4 := below_row hbz hrw hg4 hbz.size
            have hM4 := hM.off hg4 hrs.symm
            clear hR hM hbz hg4
            go_wp2_with fail
            refine (model_add s u x _ _ hM4 (by have := HL.out; omega)).mono ?_
            rintro e w5 ⟨rfl, hM5, hg5⟩
            have hb5 := below_row hb4 hsw hg5 hb4.size
            have hR5 := hR4.off hg5 hrs
            clear hR4 hM4 hb4 hg5
            have HL5 : Hid (tot (aF G x) + aO u x ≤ 63 * i + (j + 1)) := Lib.hid (by rw [tot_aO]; have := HL.out; split <;> omega)
            go_wp2_with fail
            go_roundg (gk - 1)
            case measure => have := HJK.out; omega
            case rel => exact ⟨j + 1, _, _, by go_num, by have := HJK.out; omega, hR5, hM5, HL5, hb5⟩
          · clear hjk
            have HL5 : Hid (tot G + u ≤ 63 * (i + 1)) := Lib.hid (by have := HL.out; have := HJK.out; omega)
            go_wp2_with fail
            go_roundg (k0 - i - 1)
            case measure => have := HIK.out; omega
            case rel => exact ⟨i + 1, G, u, by go_num, by have := HIK.out; omega, hR, hM, HL5, hbz⟩
      · have hnv1 : 1 < 64 := by omega
        go_wp2_with fail
        clear hcx'
        go_loopg [12] 1 (fun gk vj wr => ∃ (j : Nat) (G : Nat → Nat) (u : Nat), vj = .int .i64 (j : Int) ∧ j + gk = 1 ∧ Hs wr r G u ∧ Md wr s G u ∧ Hid (tot G + u ≤ 63 * i + j) ∧ Below w.heap.size w wr)
        case atStart => exact ⟨0, F, o, rfl, by omega, hR, hM, HL, hbz⟩
        case round =>
          clear hR hM hbz HL
          obtain ⟨j, G, u, rfl, hjk, hR, hM, HL, hbz⟩ := hrel
          have HJK := Lib.hid hjk
          by_cases hj : j < 1
          · clear hjk
            go_wp2_with fail
            refine (add_low r u x _ _ hR (by have := HL.out; omega)).mono ?_
            rintro e w4 ⟨rfl, hR4, hg4⟩
            have hb4 := below_row hbz hrw hg4 hbz.size
            have hM4 := hM.off hg4 hrs.symm
            clear hR hM hbz hg4
            go_wp2_with fail
            refine (model_add s u x _ _ hM4 (by have := HL.out; omega)).mono ?_
            rintro e w5 ⟨rfl, hM5, hg5⟩
            have hb5 := below_row hb4 hsw hg5 hb4.size
            have hR5 := hR4.off hg5 hrs
            clear hR4 hM4 hb4 hg5
            have HL5 : Hid (tot (aF G x) + aO u x ≤ 63 * i + (j + 1)) := Lib.hid (by rw [tot_aO]; have := HL.out; split <;> omega)
            go_wp2_with fail
            go_roundg (gk - 1)
            case measure => have := HJK.out; omega
            case rel => exact ⟨j + 1, _, _, by go_num, by have := HJK.out; omega, hR5, hM5, HL5, hb5⟩
          · clear hjk
            have HL5 : Hid (tot G + u ≤ 63 * (i + 1)) := Lib.hid (by have := HL.out; have := HJK.out; omega)
            go_wp2_with fail
            go_roundg (k0 - i - 1)
            case measure => have := HIK.out; omega
            case rel => exact ⟨i + 1, G, u, by go_num, by have := HIK.out; omega, hR, hM, HL5, hbz⟩
    · clear hik HIK HL
      obtain ⟨T, hT⟩ : ∃ b, decide (0 < tot F) = b := ⟨_, rfl⟩
      obtain ⟨d, hd⟩ : ∃ d, spreadB F = d := ⟨_, rfl⟩
      have HT := Lib.hid hT
      have HD := Lib.hid hd
      clear hT hd
      rcases (show p < 0 ∨ 100 < p ∨ ∃ P : Nat, p = (P : Int) ∧ P ≤ 100 by
        by_cases q1 : p < 0
        · exact Or.inl q1
        · by_cases q2 : 100 < p
          · exact Or.inr (Or.inl q2)
          · exact Or.inr (Or.inr ⟨p.toNat, by omega, by omega⟩)) with hp | hp | ⟨P, rfl, hp⟩
      · have HP : Hid (clampP p = 0) := Lib.hid (by unfold clampP; omega)
        obtain ⟨a, ha⟩ : ∃ a, cutN F 0 = a := ⟨_, rfl⟩
        have HA := Lib.hid ha
        clear ha
        go_wp2_with fail
        refine (cut_any r _ _ p _ hR).mono ?_
        rintro e w5 ⟨rfl, rfl⟩
        rw [HP.out, HA.out, HT.out]
        go_wp2_with fail
        refine (model_cut s o 0 _ _ hM (by omega)).mono ?_
        rintro e w5 ⟨rfl, rfl⟩
        rw [HA.out, HT.out]
        go_wp2_with fail
        refine (model_same s r o _ _ hM hR).mono ?_
        rintro e w6 ⟨rfl, hb6⟩
        have hR6 := hR.keep hb6 hR.lt
        have hM6 := hM.keep hb6 hM.lt
        have hb7 := hbz.trans (hb6.mono hbz.size)
        clear hb6 hR hM hbz
        go_wp2_with fail
        refine (spread_any r _ _ _ hR6).mono ?_
        rintro e w7 ⟨rfl, d1, rfl⟩
        rw [HD.out]
        have hM7 := hM6.drewN d1
        have hb8 := below_drewN hb7 d1
        go_wp2_with fail
        refine (model_spread s _ _ _ hM7).mono ?_
        rintro e w8 ⟨rfl, rfl⟩
        rw [HD.out]
        go_wp2_with fail
        go_ret
        refine ⟨ret_bool ?_, hb8⟩
        first | (simp; done) | (cases d <;> cases T <;> rfl)
      · have HP : Hid (clampP p = 100) := Lib.hid (by unfold clampP; omega)
        obtain ⟨a, ha⟩ : ∃ a, cutN F 100 = a := ⟨_, rfl⟩
        have HA := Lib.hid ha
        clear ha
        go_wp2_with fail
        refine (cut_any r _ _ p _ hR).mono ?_
        rintro e w5 ⟨rfl, rfl⟩
        rw [HP.out, HA.out, HT.out]
        go_wp2_with fail
        refine (model_cut s o 100 _ _ hM (by omega)).mono ?_
        rintro e w5 ⟨rfl, rfl⟩
        rw [HA.out, HT.out]
        go_wp2_with fail
        refine (model_same s r o _ _ hM hR).mono ?_
        rintro e w6 ⟨rfl, hb6⟩
        have hR6 := hR.keep hb6 hR.lt
        have hM6 := hM.keep hb6 hM.lt
        have hb7 := hbz.trans (hb6.mono hbz.size)
        clear hb6 hR hM hbz
        go_wp2_with fail
        refine (spread_any r _ _ _ hR6).mono ?_
        rintro e w7 ⟨rfl, d1, rfl⟩
        rw [HD.out]
        have hM7 := hM6.drewN d1
        have hb8 := below_drewN hb7 d1
        go_wp2_with fail
        refine (model_spread s _ _ _ hM7).mono ?_
        rintro e w8 ⟨rfl, rfl⟩
        rw [HD.out]
        go_wp2_with fail
        go_ret
        refine ⟨ret_bool ?_, hb8⟩
        first | (simp; done) | (cases d <;> cases T <;> rfl)
      · have HP : Hid (clampP (P : Int) = P) := Lib.hid (by unfold clampP; omega)
        obtain ⟨a, ha⟩ : ∃ a, cutN F P = a := ⟨_, rfl⟩
        have HA := Lib.hid ha
        clear ha
        go_wp2_with fail
        refine (cut_any r _ _ (P : Int) _ hR).mono ?_
        rintro e w5 ⟨rfl, rfl⟩
        rw [HP.out, HA.out, HT.out]
        go_wp2_with fail
        refine (model_cut s o P _ _ hM (by omega)).mono ?_
        rintro e w5 ⟨rfl, rfl⟩
        rw [HA.out, HT.out]
        go_wp2_with fail
        refine (model_same s r o _ _ hM hR).mono ?_
        rintro e w6 ⟨rfl, hb6⟩
        have hR6 := hR.keep hb6 hR.lt
        have hM6 := hM.keep hb6 hM.lt
        have hb7 := hbz.trans (hb6.mono hbz.size)
        clear hb6 hR hM hbz
        go_wp2_with fail
        refine (spread_any r _ _ _ hR6).mono ?_
        rintro e w7 ⟨rfl, d1, rfl⟩
        rw [HD.out]
        have hM7 := hM6.drewN d1
        have hb8 := below_drewN hb7 d1
        go_wp2_with fail
        refine (model_spread s _ _ _ hM7).mono ?_
        rintro e w8 ⟨rfl, rfl⟩
        rw [HD.out]
        go_wp2_with fail
        go_ret
        refine ⟨ret_bool ?_, hb8⟩
        first | (simp; done) | (cases d <;> cases T <;> rfl)

theorem adds_law (A0 A1 : Option Addr) (k0 k1 c0 c1 : Nat) (xs ys : List Int) (p : Int) (w : World) (hk0 : xs.length = k0) (hc0 : k0 ≤ c0) (hm0 : c0 ≤ maxLen) (hA0 : Lies w w.heap.size A0 (ints xs))
    (hk1 : ys.length = k1) (hc1 : k1 ≤ c1) (hm1 : c1 ≤ maxLen) (hA1 : Lies w w.heap.size A1 (ints ys)) :
    Calls Try.prog 3 #[.slice A0 k0 c0, .slice A1 k1 c1, .int .i64 p] w fun e w' => e = .returned (.bool true) ∧ Below w.heap.size w w' := by
  simp only [maxLen] at hm0 hm1
  exact adds_walk A0 A1 k0 k1 c0 c1 xs ys p w hk0.symm hk1.symm hA0 hA1 (by omega) (by omega)
end Go.Proofs.Ytgaicojidomenaa.W
