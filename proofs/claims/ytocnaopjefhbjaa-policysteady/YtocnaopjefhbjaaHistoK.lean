/- Contracts of the statement's own model of counts: In, Add, Spread. -/
import Derived.Test.YtocnaopjefhbjaaHistoG
namespace Go.Proofs.Ytocnaopjefhbjaa.W
open Go.RowKit

def Md (w : World) (r : Nat) (F : Nat → Nat) (o : Nat) : Prop :=
  tot F + o < 4096 ∧ w.heap[r]? = some (.cells (bins F ++ [Value.int .i64 (o : Int)]).toArray 31 (0, 0))
theorem Md.lt {w : World} {r o : Nat} {F : Nat → Nat} (h : Md w r F o) : r < w.heap.size := lt_of_row h.2
theorem Md.keep {w w' : World} {r o : Nat} {F : Nat → Nat} {B : Nat} (h : Md w r F o) (hb : Below B w w') (hr : r < B) : Md w' r F o := ⟨h.1, by rw [hb.block r hr]; exact h.2⟩
theorem Md.off {w w' : World} {r q o : Nat} {F : Nat → Nat} (h : Md w r F o) (hb : w.grownBy w' (some q)) (hr : r ≠ q) : Md w' r F o :=
  ⟨h.1, by rw [hb.block r h.lt (by simpa using hr)]; exact h.2⟩
theorem Md.drewN {w : World} {r o : Nat} {F : Nat → Nat} (h : Md w r F o) (n : Nat) : Md (w.drewN n) r F o := h
theorem one_at (F : Nat → Nat) (u : Value) : (bins F ++ [u])[240]? = some u := by
  rw [List.getElem?_append_right (by rw [bins_len]; exact Nat.le_refl _), bins_len]; rfl
theorem Md.cellOver {w : World} {r o : Nat} {F : Nat → Nat} (h : Md w r F o) : w.cell? ⟨r, 240, none⟩ = some (.int .i64 (o : Int)) := cellL h.2 240 _ (one_at F _)
theorem Md.cellBin {w : World} {r o : Nat} {F : Nat → Nat} (h : Md w r F o) {j : Nat} (hj : j < 240) : w.cell? ⟨r, j, none⟩ = some (.int .i64 (F j : Int)) :=
  cellL h.2 j _ (by rw [List.getElem?_append_left (by rw [bins_len]; exact hj)]; exact bins_at F hj)
theorem Md.ext {w : World} {r o : Nat} {F G : Nat → Nat} (h : Md w r F o) (he : ∀ j, j < 240 → F j = G j) : Md w r G o := by
  have e1 : tot F = tot G := sumTo_ext 240 he
  have e2 : bins F = bins G := bins_ext he
  obtain ⟨a, b⟩ := h
  rw [e1] at a
  rw [e2] at b
  exact ⟨a, b⟩

set_option maxRecDepth 100000 in
set_option maxHeartbeats 800000 in
theorem model_in (r o : Nat) (F : Nat → Nat) (w : World) (h : Md w r F o) :
    Calls Try.prog 21 #[.pointer (some ⟨r, 0, none⟩)] w fun e w' => e = .returned (.int .i64 (tot F : Int)) ∧ w = w' := by
  have hlt := h.1
  have H := Lib.hid h.2
  obtain ⟨T, hT⟩ : ∃ T, tot F = T := ⟨_, rfl⟩
  rw [hT] at hlt
  have HT := Lib.hid hT
  clear h hT
  go_enter Try.func21, Try.ntmps21
  go_wp2_with (with_reducible refine wpList_load_head rfl 29 (.tmp 8) rfl r rfl (bins F) _ _ _ 240 3 H.out Try.underlying29 (by rw [bins_len]; exact sizeRow) ?_)
  go_loopg [3, 10] 240 (fun gk vb vi wr => ∃ k : Nat, vi = .int .i64 (k : Int) ∧ vb = .int .i64 ((sumTo F k : Nat) : Int) ∧ k + gk = 240 ∧ w = wr)
  case atStart => exact ⟨0, rfl, rfl, rfl, rfl⟩
  case round =>
    obtain ⟨k, rfl, rfl, hk, rfl⟩ := hrel
    have HK := Lib.hid hk
    clear hk
    by_cases hlt2 : k < 240
    · have hki : (k : Int) < 240 := by omega
      obtain ⟨f, hf⟩ : ∃ f, F k = f := ⟨_, rfl⟩
      obtain ⟨S, hS⟩ : ∃ S, sumTo F k = S := ⟨_, rfl⟩
      have hS1 : sumTo F (k + 1) = S + f := by simp only [sumTo]; rw [hS, hf]
      have hS2 : S + f ≤ T := by rw [← hS1, ← HT.out]; exact sumTo_mono F (by omega)
      have hb := bins_at F hlt2
      rw [hf] at hb
      rw [hS]
      have HB := Lib.hid hb
      have HS1 := Lib.hid hS1
      clear hb hS hf hS1
      go_wp2_with (with_reducible refine wpList_index_cell rfl 29 (.tmp 9) (.tmp 10) rfl 240 3 Try.underlying29 _ Try.underlying3 rfl sizeInt (bins F) rfl .i64 k rfl hlt2 (.int .i64 (f : Int)) HB.out ?_)
      go_roundg (gk - 1)
      case measure => have := HK.out; omega
      case rel => exact ⟨k + 1, by go_num, by rw [HS1.out]; rfl, by have := HK.out; omega, rfl⟩
    · obtain rfl : k = 240 := by have := HK.out; omega
      go_wp2_with fail
      go_ret
      exact ⟨rfl, rfl⟩

abbrev rowM (F : Nat → Nat) (o : Int) : List Value := bins F ++ [Value.int .i64 o]
theorem rowM_len (F : Nat → Nat) (o : Int) : (rowM F o).length = 241 := by simp [bins_len]
theorem rowM_over (F : Nat → Nat) (o o' : Int) : (rowM F o).set 240 (.int .i64 o') = rowM F o' := by
  unfold rowM; rw [List.set_append_right _ _ (by rw [bins_len]; exact Nat.le_refl _), bins_len]; rfl
theorem rowM_bin (F G : Nat → Nat) (o : Int) {j : Nat} (h : j < 240) (x : Int) (hx : x = (G j : Int)) (ho : ∀ k, k < 240 → k ≠ j → G k = F k) : (rowM F o).set j (.int .i64 x) = rowM G o := by
  unfold rowM; rw [List.set_append_left _ _ (by rw [bins_len]; exact h), bins_set F G h x hx ho]

set_option maxRecDepth 100000 in
set_option maxHeartbeats 800000 in
theorem model_add_in (r o n : Nat) (F : Nat → Nat) (w : World) (h : Md w r F o) (hn : n < 240) (hl : tot F + o + 1 < 4096) :
    Calls Try.prog 13 #[.pointer (some ⟨r, 0, none⟩), .int .i64 (n : Int)] w fun e w' => e = .returned (.tuple #[]) ∧ Md w' r (aF F (n : Int)) (aO o (n : Int)) ∧ w.grownBy w' (some r) := by
  have c0 := h.cellBin hn
  have hfn : F n ≤ 4096 := by have := le_sumTo F hn; unfold tot at hl; omega
  have H := Lib.hid h.2
  obtain ⟨T, hT⟩ : ∃ T, tot F = T := ⟨_, rfl⟩
  have hT1 : tot (aF F (n : Int)) = T + 1 := by rw [tot_in (by omega) (by omega), hT]
  have ho1 : aO o (n : Int) = o := by unfold aO; rw [if_neg (by omega)]; rfl
  rw [hT] at hl
  obtain ⟨f, hf⟩ : ∃ f, F n = f := ⟨_, rfl⟩
  rw [hf] at c0 hfn
  have hni : (n : Int) < 240 := by omega
  have HT1 := Lib.hid hT1
  have HO1 := Lib.hid ho1
  have Hf := Lib.hid hf
  have hw : IntKind.i64.wrap ((T : Int) + 1 + (o : Int)) = (T : Int) + 1 + (o : Int) := wrap_small (by omega) (by omega)
  have hdl : ((T : Int) + 1 + (o : Int) == 4096) = false := by simp; omega
  clear h hT hT1 ho1 hf
  go_enter Try.func13, Try.ntmps13
  go_wp2
  go_still_tail 10, (by kernel_rfl)
  change wpList _ _ _ _ _ w.drew
  have hd := grown_drew (World.grownBy.refl w (some r))
  have H1 : Hid (w.drew.heap[r]? = _) := H
  generalize w.drew = w1 at hd H1 ⊢
  refine wpList_store_in rfl 3 (.tmp 18) (.tmp 15) rfl sizeInt r n rfl .i64 _ rfl _ _ H1.out (by rw [rowM_len]; omega) ?_
  intro w2 H2 hg2
  rw [rowM_bin F (aF F (n : Int)) _ hn _ (by unfold aF; rw [Hf.out, if_pos rfl, wrap_small (by omega) (by omega)]; rfl) (fun k _ hk => by unfold aF; rw [if_neg (by omega), Nat.add_zero])] at H2
  have hg3 := grown_trans hd hg2
  have hM : Md w2 r (aF F (n : Int)) o := ⟨by rw [HT1.out]; omega, H2.out⟩
  have c2 := hM.cellOver
  have hin : ∀ W : World, Md W r (aF F (n : Int)) o → Calls Try.prog 21 #[.pointer (some ⟨r, 0, none⟩)] W fun e w' => e = .returned (.int .i64 ((T : Int) + 1)) ∧ w' = W := by
    intro W hW
    have := quiet_eq (model_in r o _ W hW)
    rw [HT1.out] at this
    exact this
  have HIN := Lib.hid hin
  clear c0 H H1 hd hg2 H2 hin
  go_wp2_with fail
  go_quiet ((go_at_call 21; exact Calls.quiet_of_same (HIN.out _ (hM.drewN _))))
  go_wp2_with fail
  go_end0
  rw [HO1.out]
  exact ⟨rfl, hM, grown_trans hg3 (grown_drewN _ _ _)⟩

set_option maxRecDepth 100000 in
set_option maxHeartbeats 800000 in
theorem model_add_over (r o : Nat) (x : Int) (F : Nat → Nat) (w : World) (h : Md w r F o) (hx : 240 ≤ x) (hl : tot F + o + 1 < 4096) :
    Calls Try.prog 13 #[.pointer (some ⟨r, 0, none⟩), .int .i64 x] w fun e w' => e = .returned (.tuple #[]) ∧ Md w' r (aF F x) (aO o x) ∧ w.grownBy w' (some r) := by
  have c0 := h.cellOver
  have H := Lib.hid h.2
  obtain ⟨T, hT⟩ : ∃ T, tot F = T := ⟨_, rfl⟩
  have hT1 : tot (aF F x) = T := by rw [tot_out (Or.inr hx), hT]
  have ho1 : aO o x = o + 1 := by unfold aO; rw [if_pos hx]
  have hbF : bins F = bins (aF F x) := bins_ext fun j hj => by unfold aF; rw [if_neg (by omega), Nat.add_zero]
  rw [hT] at hl
  have HT1 := Lib.hid hT1
  have HO1 := Lib.hid ho1
  have HF := Lib.hid hbF
  have hx0 : 0 ≤ x := by omega
  have hw : IntKind.i64.wrap ((T : Int) + ((o : Int) + 1)) = (T : Int) + ((o : Int) + 1) := wrap_small (by omega) (by omega)
  have hdl : ((T : Int) + ((o : Int) + 1) == 4096) = false := by simp; omega
  clear h hT hT1 ho1 hbF
  go_enter Try.func13, Try.ntmps13
  go_wp2_with (with_reducible refine wpList_store_in rfl 3 (.tmp 25) (.tmp 23) rfl sizeInt r 240 rfl .i64 _ rfl _ _ H.out (by rw [rowM_len]; omega) ?_; intro w2 H2 hg3; rw [rowM_over] at H2; clear c0)
  have hM : Md w2 r (aF F x) (o + 1) := ⟨by rw [HT1.out]; omega, by rw [← HF.out]; exact H2.out⟩
  have c2 : w2.cell? ⟨r, 240, none⟩ = some (.int .i64 ((o : Int) + 1)) := hM.cellOver
  have hin : ∀ W : World, Md W r (aF F x) (o + 1) → Calls Try.prog 21 #[.pointer (some ⟨r, 0, none⟩)] W fun e w' => e = .returned (.int .i64 (T : Int)) ∧ w' = W := by
    intro W hW
    have := quiet_eq (model_in r _ _ W hW)
    rw [HT1.out] at this
    exact this
  have HIN := Lib.hid hin
  clear H H2 hin
  go_quiet ((go_at_call 21; exact Calls.quiet_of_same (HIN.out _ (hM.drewN _))))
  go_wp2_with fail
  go_end0
  rw [HO1.out]
  exact ⟨rfl, hM, grown_trans hg3 (grown_drewN _ _ _)⟩

set_option maxRecDepth 100000 in
theorem model_add_neg (r o : Nat) (x : Int) (F : Nat → Nat) (w : World) (h : Md w r F o) (hx : x < 0) :
    Calls Try.prog 13 #[.pointer (some ⟨r, 0, none⟩), .int .i64 x] w fun e w' => e = .returned (.tuple #[]) ∧ Md w' r (aF F x) (aO o x) ∧ w.grownBy w' (some r) := by
  have hT1 : tot (aF F x) = tot F := tot_out (Or.inl hx)
  have ho1 : aO o x = o := by unfold aO; rw [if_neg (by omega)]; rfl
  have hbF : bins F = bins (aF F x) := bins_ext fun j hj => by unfold aF; rw [if_neg (by omega), Nat.add_zero]
  have hH : Md w r (aF F x) (aO o x) := ⟨by rw [hT1, ho1]; exact h.1, by rw [ho1, ← hbF]; exact h.2⟩
  clear hT1 ho1 hbF h
  go_enter Try.func13, Try.ntmps13
  go_wp2
  first | go_end0 | refine bodyPost_ret (results_none rfl _ _ _) rfl ?_
  exact ⟨rfl, hH, World.grownBy.refl _ _⟩

theorem model_add (r o : Nat) (x : Int) (F : Nat → Nat) (w : World) (h : Md w r F o) (hl : tot F + o + 1 < 4096) :
    Calls Try.prog 13 #[.pointer (some ⟨r, 0, none⟩), .int .i64 x] w fun e w' => e = .returned (.tuple #[]) ∧ Md w' r (aF F x) (aO o x) ∧ w.grownBy w' (some r) := by
  by_cases h0 : x < 0
  · exact model_add_neg r o x F w h h0
  · by_cases h1 : x < 240
    · obtain ⟨n, rfl⟩ := Int.eq_ofNat_of_zero_le (show 0 ≤ x by omega)
      exact model_add_in r o n F w h (by omega) hl
    · exact model_add_over r o x F w h (by omega) hl

set_option maxRecDepth 100000 in
set_option maxHeartbeats 800000 in
theorem model_spread (r o : Nat) (F : Nat → Nat) (w : World) (h : Md w r F o) :
    Calls Try.prog 28 #[.pointer (some ⟨r, 0, none⟩)] w fun e w' => e = .returned (.bool (spreadB F)) ∧ w = w' := by
  have hlt := h.1
  have HM := Lib.hid h
  have H := Lib.hid h.2
  obtain ⟨T, hT⟩ : ∃ T, tot F = T := ⟨_, rfl⟩
  rw [hT] at hlt
  have HT := Lib.hid hT
  clear h hT
  obtain ⟨Q, hQ⟩ : ∃ Q, sumTo (sq F) 240 = Q := ⟨_, rfl⟩
  have E := Lib.hid (spread_is HT.out hQ)
  have hQ1 : Q ≤ 16777216 := by rw [← hQ]; exact sq_le F (Nat.le_refl _) HT.out (by omega)
  have HQ := Lib.hid hQ
  clear hQ
  go_enter Try.func28, Try.ntmps28
  go_wp2_with (with_reducible refine wpList_load_head rfl 29 (.tmp 8) rfl r rfl (bins F) _ _ _ 240 3 H.out Try.underlying29 (by rw [bins_len]; exact sizeRow) ?_)
  go_loopg [3, 10] 240 (fun gk vb vi wr => ∃ k : Nat, vi = .int .i64 (k : Int) ∧ vb = .int .i64 ((sumTo (sq F) k : Nat) : Int) ∧ k + gk = 240 ∧ w = wr)
  case atStart => exact ⟨0, rfl, rfl, rfl, rfl⟩
  case round =>
    obtain ⟨k, rfl, rfl, hk, rfl⟩ := hrel
    have HK := Lib.hid hk
    clear hk
    by_cases hlt2 : k < 240
    · have hki : (k : Int) < 240 := by omega
      obtain ⟨f, hf⟩ : ∃ f, F k = f := ⟨_, rfl⟩
      obtain ⟨S, hS⟩ : ∃ S, sumTo (sq F) k = S := ⟨_, rfl⟩
      have hS1 : sumTo (sq F) (k + 1) = S + f * f := by simp only [sumTo]; rw [hS]; unfold sq; rw [hf]
      have hS2 : S + f * f ≤ 16777216 := by rw [← hS1]; exact sq_le F (by omega) HT.out (by omega)
      have hff : ((f * f : Nat) : Int) = (f : Int) * (f : Int) := Int.natCast_mul _ _
      have hff0 : 0 ≤ (f : Int) * (f : Int) := by omega
      have hff1 : (S : Int) + (f : Int) * (f : Int) ≤ 16777216 := by omega
      have hff2 : (f : Int) * (f : Int) ≤ 16777216 := by omega
      have hb := bins_at F hlt2
      rw [hf] at hb
      rw [hS]
      have HB := Lib.hid hb
      have HS1 := Lib.hid hS1
      have HFF := Lib.hid hff
      clear hb hS hf hS1 hff hS2
      go_wp2_with (with_reducible refine wpList_index_cell rfl 29 (.tmp 9) (.tmp 10) rfl 240 3 Try.underlying29 _ Try.underlying3 rfl sizeInt (bins F) rfl .i64 k rfl hlt2 (.int .i64 (f : Int)) HB.out ?_)
      go_roundg (gk - 1)
      case measure => have := HK.out; omega
      case rel => exact ⟨k + 1, by go_num, by rw [HS1.out, Int.natCast_add, HFF.out], by have := HK.out; omega, rfl⟩
    · obtain rfl : k = 240 := by have := HK.out; omega
      rw [HQ.out]
      have hTT : T * T ≤ 4096 * 4096 := Nat.mul_le_mul (by omega) (by omega)
      have hTi : ((T * T : Nat) : Int) = (T : Int) * (T : Int) := Int.natCast_mul _ _
      have e5 : (5 * (T : Int)) * (T : Int) = 5 * ((T * T : Nat) : Int) := by rw [hTi, Int.mul_assoc]
      have b1 : (5 * (T : Int)) * (T : Int) ≤ 83886080 := by rw [e5]; omega
      have b0 : 0 ≤ (5 * (T : Int)) * (T : Int) := by rw [e5]; omega
      have HE5 := Lib.hid e5
      clear e5 hTi hTT
      go_wp2_with fail
      refine (model_in r o _ _ HM.out).mono ?_
      rintro e w1 ⟨rfl, rfl⟩
      rw [HT.out]
      by_cases hz : T = 0
      · subst hz
        go_wp2_with fail
        go_ret
        exact ⟨ret_bool (by rw [E.out]; simp), rfl⟩
      · have hz0 : decide ((0 : Int) < (T : Int)) = true := by simp; omega
        go_wp2_with fail
        refine (model_in r o _ _ HM.out).mono ?_
        rintro e w1 ⟨rfl, rfl⟩
        rw [HT.out]
        go_wp2_with fail
        refine (model_in r o _ _ HM.out).mono ?_
        rintro e w1 ⟨rfl, rfl⟩
        rw [HT.out]
        go_wp2_with fail
        go_ret
        refine ⟨ret_bool ?_, rfl⟩
        rw [E.out, Bool.eq_iff_iff]
        have h5 : 5 * T * T = 5 * (T * T) := Nat.mul_assoc _ _ _
        rw [h5]
        simp [HE5.out]
        omega

end Go.Proofs.Ytocnaopjefhbjaa.W
