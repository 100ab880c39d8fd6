/- Contracts of package histo: Add, and halving. -/
import Derived.Test.YtocnaopjefhbjaaHistoA
namespace Go.Proofs.Ytocnaopjefhbjaa.W
open Go.RowKit

/-- The block alone. -/
abbrev rowH (F : Nat → Nat) (i o : Int) : List Value := bins F ++ [Value.int .i64 i, Value.int .i64 o]
theorem rowH_len (F : Nat → Nat) (i o : Int) : (rowH F i o).length = 242 := by simp [bins_len]
theorem rowH_in (F : Nat → Nat) (i o i' : Int) : (rowH F i o).set 240 (.int .i64 i') = rowH F i' o := by
  unfold rowH; rw [List.set_append_right _ _ (by rw [bins_len]; exact Nat.le_refl _), bins_len]; rfl
theorem rowH_over (F : Nat → Nat) (i o o' : Int) : (rowH F i o).set 241 (.int .i64 o') = rowH F i o' := by
  unfold rowH; rw [List.set_append_right _ _ (by rw [bins_len]; omega), bins_len]; rfl
theorem rowH_bin (F G : Nat → Nat) (i o : Int) {j : Nat} (h : j < 240) (x : Int) (hx : x = (G j : Int)) (ho : ∀ k, k < 240 → k ≠ j → G k = F k) : (rowH F i o).set j (.int .i64 x) = rowH G i o := by
  unfold rowH; rw [List.set_append_left _ _ (by rw [bins_len]; exact h), bins_set F G h x hx ho]

def mix (F : Nat → Nat) (i : Nat) : Nat → Nat := fun j => if j < i then F j / 2 else F j
theorem mix_at (F : Nat → Nat) (i : Nat) : mix F (i + 1) i = F i / 2 := by simp [mix]
theorem mix_other (F : Nat → Nat) (i : Nat) {k : Nat} (h : k ≠ i) : mix F (i + 1) k = mix F i k := by
  unfold mix
  by_cases q : k < i
  · rw [if_pos q, if_pos (by omega)]
  · rw [if_neg q, if_neg (by omega)]

set_option maxRecDepth 100000 in
set_option maxHeartbeats 800000 in
theorem histo_halve (r i o : Nat) (F : Nat → Nat) (w : World) (h : w.heap[r]? = some (.cells (rowH F (i : Int) (o : Int)).toArray 45 (0, 0))) (hF : tot F ≤ 4096) (ho : o ≤ 4096) :
    Calls Try.prog 20 #[.pointer (some ⟨r, 0, none⟩)] w fun e w' => e = .returned (.tuple #[]) ∧
      w'.heap[r]? = some (.cells (rowH (fun j => F j / 2) ((tot (fun j => F j / 2) : Nat) : Int) ((o / 2 : Nat) : Int)).toArray 45 (0, 0)) ∧ w.grownBy w' (some r) := by
  have H := Lib.hid h
  clear h
  go_enter Try.func20, Try.ntmps20
  go_wp2_with (first
    | (with_reducible refine wpList_store_in rfl 3 (.tmp 6) (.const (.int .i64 0)) rfl sizeInt r 240 rfl .i64 0 rfl _ _ H.out (by rw [rowH_len]; omega) ?_; intro w1 H1 hg1; rw [rowH_in] at H1)
    | (with_reducible refine wpList_load_head rfl 29 (.tmp 9) rfl r rfl (bins F) _ _ _ 240 3 H1.out Try.underlying29 (by rw [bins_len]; exact sizeRow) ?_))
  have hF2 := sumTo_half F 240
  have hF3 : sumTo (fun j => F j / 2) 240 ≤ 2048 := by unfold tot at hF; omega
  clear H hF2
  go_loopg [11] 240 (fun gk vi wr => ∃ k : Nat, vi = .int .i64 (k : Int) ∧ k + gk = 240 ∧ Hid (wr.heap[r]? = some (.cells (rowH (mix F k) ((sumTo (fun j => F j / 2) k : Nat) : Int) (o : Int)).toArray 45 (0, 0))) ∧ w.grownBy wr (some r))
  case atStart => exact ⟨0, rfl, rfl, by rw [show mix F 0 = F by funext j; simp [mix]]; exact H1, hg1⟩
  case round =>
    clear H1 hg1
    obtain ⟨k, rfl, hk, H, hg⟩ := hrel
    have HK := Lib.hid hk
    clear hk
    by_cases hlt : k < 240
    · have hFk : F k ≤ 4096 := Nat.le_trans (le_sumTo F hlt) hF
      have hki : (k : Int) < 240 := by omega
      obtain ⟨f, hf⟩ : ∃ f, F k = f := ⟨_, rfl⟩
      obtain ⟨S, hS⟩ : ∃ S, sumTo (fun j => F j / 2) k = S := ⟨_, rfl⟩
      have hS2 : S ≤ 2048 := by have := sumTo_mono (fun j => F j / 2) (show k ≤ 240 by omega); omega
      have hb := bins_at F hlt
      rw [hf] at hb hFk
      rw [hS] at H
      have HB := Lib.hid hb
      have HS := Lib.hid hS
      have Hf := Lib.hid hf
      clear hb hS hf
      go_wp2_with (first
        | (with_reducible refine wpList_index_cell rfl 29 (.tmp 10) (.tmp 11) rfl 240 3 Try.underlying29 _ Try.underlying3 rfl sizeInt (bins F) rfl .i64 k rfl hlt (.int .i64 (f : Int)) HB.out ?_)
        | (with_reducible refine wpList_store_in rfl 3 (.tmp 21) (.tmp 18) rfl sizeInt r k rfl .i64 _ rfl _ _ H.out (by rw [rowH_len]; omega) ?_; intro w2 H2 hg2; rw [rowH_bin _ (mix F (k + 1)) _ _ hlt _ (by rw [mix_at, Hf.out]; omega) (fun j _ hj => mix_other F k hj)] at H2; have c2 : w2.cell? ⟨r, 240, none⟩ = some (.int .i64 (S : Int)) := cellL H2.out 240 _ (two_at _ _ _).1)
        | (with_reducible refine wpList_store_in rfl 3 (.tmp 30) (.tmp 28) rfl sizeInt r 240 rfl .i64 _ rfl _ _ H2.out (by rw [rowH_len]; omega) ?_; intro w3 H3 hg3; rw [rowH_in] at H3; clear c2))
      have hg4 := grown_trans (grown_trans hg hg2) hg3
      go_roundg (gk - 1)
      case measure => have := HK.out; omega
      case rel =>
        refine ⟨k + 1, by go_num, by have := HK.out; omega, ?_, hg4⟩
        rw [show sumTo (fun j => F j / 2) (k + 1) = S + f / 2 by simp only [sumTo]; rw [HS.out, Hf.out]]
        rw [show (((S + f / 2 : Nat)) : Int) = (S : Int) + (f : Int) / 2 by omega]
        exact H3
    · obtain rfl : k = 240 := by have := HK.out; omega
      have e1 : rowH (mix F 240) ((sumTo (fun j => F j / 2) 240 : Nat) : Int) (o : Int) = rowH (fun j => F j / 2) ((tot (fun j => F j / 2) : Nat) : Int) (o : Int) := by
        unfold rowH tot; rw [bins_ext (F := mix F 240) (G := fun j => F j / 2) (fun j hj => by simp [mix, hj])]
      rw [e1] at H
      have c3 : wr.cell? ⟨r, 241, none⟩ = some (.int .i64 (o : Int)) := cellL H.out 241 _ (two_at _ _ _).2
      clear hF3 e1
      go_wp2_with (with_reducible refine wpList_store_in rfl 3 (.tmp 38) (.tmp 36) rfl sizeInt r 241 rfl .i64 _ rfl _ _ H.out (by rw [rowH_len]; omega) ?_; intro w2 H2 hg2; rw [rowH_over] at H2)
      go_end0
      refine ⟨rfl, ?_, grown_trans hg hg2⟩
      exact H2.out

theorem wrap_small {x : Int} (h0 : -9223372036854775808 ≤ x) (h1 : x ≤ 9223372036854775807) : IntKind.i64.wrap x = x := by rw [IntKind.wrap_i64]; omega
theorem hs_of {w : World} {r i o : Nat} {F : Nat → Nat} (h : w.heap[r]? = some (.cells (rowH F (i : Int) (o : Int)).toArray 45 (0, 0))) (hi : tot F = i) (ho : i + o < 4096) : Hs w r F o := by
  subst hi; exact ⟨ho, h⟩

set_option maxRecDepth 100000 in
set_option maxHeartbeats 800000 in
theorem add_in_low (r o n : Nat) (F : Nat → Nat) (w : World) (h : Hs w r F o) (hn : n < 240) (hl : tot F + o + 1 < 4096) :
    Calls Try.prog 11 #[.pointer (some ⟨r, 0, none⟩), .int .i64 (n : Int)] w fun e w' => e = .returned (.tuple #[]) ∧ Hs w' r (aF F (n : Int)) (aO o (n : Int)) ∧ w.grownBy w' (some r) := by
  have c0 := h.cellBin hn
  have hlt := h.1
  have hfn : F n ≤ 4096 := by have := le_sumTo F hn; unfold tot at hlt; omega
  have H := Lib.hid h.2
  obtain ⟨T, hT⟩ : ∃ T, tot F = T := ⟨_, rfl⟩
  have hT1 : tot (aF F (n : Int)) = T + 1 := by rw [tot_in (by omega) (by omega), hT]
  have ho1 : aO o (n : Int) = o := by unfold aO; rw [if_neg (by omega)]; rfl
  rw [hT] at hlt H
  obtain ⟨f, hf⟩ : ∃ f, F n = f := ⟨_, rfl⟩
  rw [hf] at c0 hfn
  have hni : (n : Int) < 240 := by omega
  have HT1 := Lib.hid hT1
  have HO1 := Lib.hid ho1
  have Hf := Lib.hid hf
  rw [hT] at hl
  have hw : IntKind.i64.wrap ((T : Int) + 1 + (o : Int)) = (T : Int) + 1 + (o : Int) := wrap_small (by omega) (by omega)
  have hdl : decide ((4096 : Int) ≤ (T : Int) + 1 + (o : Int)) = false := by simp; omega
  clear h hT hT1 ho1 hf
  go_enter Try.func11, Try.ntmps11
  go_wp2
  go_still_tail 10, (by kernel_rfl)
  change wpList _ _ _ _ _ w.drew
  have hd := grown_drew (World.grownBy.refl w (some r))
  have H1 : Hid (w.drew.heap[r]? = _) := H
  generalize w.drew = w1 at hd H1 ⊢
  refine wpList_store_in rfl 3 (.tmp 17) (.tmp 14) rfl sizeInt r n rfl .i64 _ rfl _ _ H1.out (by rw [rowH_len]; omega) ?_
  intro w2 H2 hg2
  rw [rowH_bin F (aF F (n : Int)) _ _ hn _ (by unfold aF; rw [Hf.out, if_pos rfl, wrap_small (by omega) (by omega)]; rfl) (fun k _ hk => by unfold aF; rw [if_neg (by omega), Nat.add_zero])] at H2
  have c2 : w2.cell? ⟨r, 240, none⟩ = some (.int .i64 (T : Int)) := cellL H2.out 240 _ (two_at _ _ _).1
  have hg3 := grown_trans hd hg2
  clear c0 H H1 hd hg2
  go_wp2_with (with_reducible refine wpList_store_in rfl 3 (.tmp 24) (.tmp 22) rfl sizeInt r 240 rfl .i64 _ rfl _ _ H2.out (by rw [rowH_len]; omega) ?_; intro w3 H3 hg4; rw [rowH_in] at H3; clear c2)
  have hg5 := grown_trans hg3 hg4
  have c3 : w3.cell? ⟨r, 240, none⟩ = some (.int .i64 ((T : Int) + 1)) := cellL H3.out 240 _ (two_at _ _ _).1
  have c4 : w3.cell? ⟨r, 241, none⟩ = some (.int .i64 (o : Int)) := cellL H3.out 241 _ (two_at _ _ _).2
  clear H2 hg3 hg4
  go_quiet (fail)
  go_wp2_with fail
  go_end0
  refine ⟨rfl, ?_, grown_trans hg5 (grown_drewN _ _ _)⟩
  rw [HO1.out]
  exact hs_of (i := T + 1) H3.out HT1.out (by omega)

set_option maxRecDepth 100000 in
set_option maxHeartbeats 800000 in
theorem add_over_low (r o : Nat) (x : Int) (F : Nat → Nat) (w : World) (h : Hs w r F o) (hx : 240 ≤ x) (hl : tot F + o + 1 < 4096) :
    Calls Try.prog 11 #[.pointer (some ⟨r, 0, none⟩), .int .i64 x] w fun e w' => e = .returned (.tuple #[]) ∧ Hs w' r (aF F x) (aO o x) ∧ w.grownBy w' (some r) := by
  have c0 := h.cellOver
  have hlt := h.1
  have H := Lib.hid h.2
  obtain ⟨T, hT⟩ : ∃ T, tot F = T := ⟨_, rfl⟩
  have hT1 : tot (aF F x) = T := by rw [tot_out (Or.inr hx), hT]
  have ho1 : aO o x = o + 1 := by unfold aO; rw [if_pos hx]
  have hbF : bins F = bins (aF F x) := bins_ext fun j hj => by unfold aF; rw [if_neg (by omega), Nat.add_zero]
  rw [hT] at hlt H
  have HT1 := Lib.hid hT1
  have HO1 := Lib.hid ho1
  have HF := Lib.hid hbF
  rw [hT] at hl
  have hw : IntKind.i64.wrap ((T : Int) + ((o : Int) + 1)) = (T : Int) + ((o : Int) + 1) := wrap_small (by omega) (by omega)
  have hdl : decide ((4096 : Int) ≤ (T : Int) + ((o : Int) + 1)) = false := by simp; omega
  have hx0 : 0 ≤ x := by omega
  clear h hT hT1 ho1 hbF
  go_enter Try.func11, Try.ntmps11
  go_wp2_with (with_reducible refine wpList_store_in rfl 3 (.tmp 31) (.tmp 29) rfl sizeInt r 241 rfl .i64 _ rfl _ _ H.out (by rw [rowH_len]; omega) ?_; intro w3 H3 hg5; rw [rowH_over] at H3; clear c0)
  have c3 : w3.cell? ⟨r, 240, none⟩ = some (.int .i64 (T : Int)) := cellL H3.out 240 _ (two_at _ _ _).1
  have c4 : w3.cell? ⟨r, 241, none⟩ = some (.int .i64 ((o : Int) + 1)) := cellL H3.out 241 _ (two_at _ _ _).2
  clear H
  go_quiet (fail)
  go_wp2_with fail
  go_end0
  refine ⟨rfl, ?_, grown_trans hg5 (grown_drewN _ _ _)⟩
  rw [HO1.out]
  refine hs_of (i := T) ?_ HT1.out (by omega)
  unfold rowH; rw [← HF.out]; exact H3.out

set_option maxRecDepth 100000 in
set_option maxHeartbeats 800000 in
theorem add_in_full (r o n : Nat) (F : Nat → Nat) (w : World) (h : Hs w r F o) (hn : n < 240) (hl : tot F + o + 1 = 4096) :
    Calls Try.prog 11 #[.pointer (some ⟨r, 0, none⟩), .int .i64 (n : Int)] w fun e w' => e = .returned (.tuple #[]) ∧ Hs w' r (fun j => aF F (n : Int) j / 2) (aO o (n : Int) / 2) ∧ w.grownBy w' (some r) := by
  have c0 := h.cellBin hn
  have hlt := h.1
  have hfn : F n ≤ 4096 := by have := le_sumTo F hn; unfold tot at hlt; omega
  have H := Lib.hid h.2
  obtain ⟨T, hT⟩ : ∃ T, tot F = T := ⟨_, rfl⟩
  have hT1 : tot (aF F (n : Int)) = T + 1 := by rw [tot_in (by omega) (by omega), hT]
  have ho1 : aO o (n : Int) = o := by unfold aO; rw [if_neg (by omega)]; rfl
  rw [hT] at hlt H
  obtain ⟨f, hf⟩ : ∃ f, F n = f := ⟨_, rfl⟩
  rw [hf] at c0 hfn
  have hni : (n : Int) < 240 := by omega
  have HT1 := Lib.hid hT1
  have HO1 := Lib.hid ho1
  have Hf := Lib.hid hf
  rw [hT] at hl
  have hw : IntKind.i64.wrap ((T : Int) + 1 + (o : Int)) = (T : Int) + 1 + (o : Int) := wrap_small (by omega) (by omega)
  have hdl : (4096 : Int) ≤ (T : Int) + 1 + (o : Int) := by omega
  have HL := Lib.hid hl
  clear hl
  clear h hT hT1 ho1 hf
  go_enter Try.func11, Try.ntmps11
  go_wp2
  go_still_tail 10, (by kernel_rfl)
  change wpList _ _ _ _ _ w.drew
  have hd := grown_drew (World.grownBy.refl w (some r))
  have H1 : Hid (w.drew.heap[r]? = _) := H
  generalize w.drew = w1 at hd H1 ⊢
  refine wpList_store_in rfl 3 (.tmp 17) (.tmp 14) rfl sizeInt r n rfl .i64 _ rfl _ _ H1.out (by rw [rowH_len]; omega) ?_
  intro w2 H2 hg2
  rw [rowH_bin F (aF F (n : Int)) _ _ hn _ (by unfold aF; rw [Hf.out, if_pos rfl, wrap_small (by omega) (by omega)]; rfl) (fun k _ hk => by unfold aF; rw [if_neg (by omega), Nat.add_zero])] at H2
  have c2 : w2.cell? ⟨r, 240, none⟩ = some (.int .i64 (T : Int)) := cellL H2.out 240 _ (two_at _ _ _).1
  have hg3 := grown_trans hd hg2
  clear c0 H H1 hd hg2
  go_wp2_with (with_reducible refine wpList_store_in rfl 3 (.tmp 24) (.tmp 22) rfl sizeInt r 240 rfl .i64 _ rfl _ _ H2.out (by rw [rowH_len]; omega) ?_; intro w3 H3 hg4; rw [rowH_in] at H3; clear c2)
  have hg5 := grown_trans hg3 hg4
  have c3 : w3.cell? ⟨r, 240, none⟩ = some (.int .i64 ((T : Int) + 1)) := cellL H3.out 240 _ (two_at _ _ _).1
  have c4 : w3.cell? ⟨r, 241, none⟩ = some (.int .i64 (o : Int)) := cellL H3.out 241 _ (two_at _ _ _).2
  clear H2 hg3 hg4
  go_quiet (fail)
  go_wp2_with fail
  refine (histo_halve r (T + 1) o (aF F (n : Int)) (w3.drewN nq) H3.out (by rw [HT1.out]; omega) (by omega)).mono ?_
  rintro e w4 ⟨rfl, h4, hg6⟩
  go_wp2_with fail
  go_end0
  refine ⟨rfl, ?_, grown_trans hg5 (grown_trans (grown_drewN _ _ _) hg6)⟩
  rw [HO1.out]
  exact hs_of h4 rfl (by have := sumTo_half (aF F (n : Int)) 240; have h1 := HT1.out; unfold tot at h1 ⊢; omega)

set_option maxRecDepth 100000 in
set_option maxHeartbeats 800000 in
theorem add_over_full (r o : Nat) (x : Int) (F : Nat → Nat) (w : World) (h : Hs w r F o) (hx : 240 ≤ x) (hl : tot F + o + 1 = 4096) :
    Calls Try.prog 11 #[.pointer (some ⟨r, 0, none⟩), .int .i64 x] w fun e w' => e = .returned (.tuple #[]) ∧ Hs w' r (fun j => aF F x j / 2) (aO o x / 2) ∧ w.grownBy w' (some r) := by
  have c0 := h.cellOver
  have hlt := h.1
  have H := Lib.hid h.2
  obtain ⟨T, hT⟩ : ∃ T, tot F = T := ⟨_, rfl⟩
  have hT1 : tot (aF F x) = T := by rw [tot_out (Or.inr hx), hT]
  have ho1 : aO o x = o + 1 := by unfold aO; rw [if_pos hx]
  have hbF : bins F = bins (aF F x) := bins_ext fun j hj => by unfold aF; rw [if_neg (by omega), Nat.add_zero]
  rw [hT] at hlt H
  have HT1 := Lib.hid hT1
  have HO1 := Lib.hid ho1
  have HF := Lib.hid hbF
  rw [hT] at hl
  have hw : IntKind.i64.wrap ((T : Int) + ((o : Int) + 1)) = (T : Int) + ((o : Int) + 1) := wrap_small (by omega) (by omega)
  have hdl : (4096 : Int) ≤ (T : Int) + ((o : Int) + 1) := by omega
  have HL := Lib.hid hl
  clear hl
  have hx0 : 0 ≤ x := by omega
  clear h hT hT1 ho1 hbF
  go_enter Try.func11, Try.ntmps11
  go_wp2_with (with_reducible refine wpList_store_in rfl 3 (.tmp 31) (.tmp 29) rfl sizeInt r 241 rfl .i64 _ rfl _ _ H.out (by rw [rowH_len]; omega) ?_; intro w3 H3 hg5; rw [rowH_over] at H3; clear c0)
  have c3 : w3.cell? ⟨r, 240, none⟩ = some (.int .i64 (T : Int)) := cellL H3.out 240 _ (two_at _ _ _).1
  have c4 : w3.cell? ⟨r, 241, none⟩ = some (.int .i64 ((o : Int) + 1)) := cellL H3.out 241 _ (two_at _ _ _).2
  clear H
  go_quiet (fail)
  go_wp2_with fail
  refine (histo_halve r T (o + 1) (aF F x) (w3.drewN nq) (by unfold rowH; rw [← HF.out]; exact H3.out) (by rw [HT1.out]; omega) (by omega)).mono ?_
  rintro e w4 ⟨rfl, h4, hg6⟩
  go_wp2_with fail
  go_end0
  refine ⟨rfl, ?_, grown_trans hg5 (grown_trans (grown_drewN _ _ _) hg6)⟩
  rw [HO1.out]
  exact hs_of h4 rfl (by have := sumTo_half (aF F x) 240; have h1 := HT1.out; unfold tot at h1 ⊢; omega)

set_option maxRecDepth 100000 in
theorem add_neg (r o : Nat) (x : Int) (F : Nat → Nat) (w : World) (h : Hs w r F o) (hx : x < 0) :
    Calls Try.prog 11 #[.pointer (some ⟨r, 0, none⟩), .int .i64 x] w fun e w' => e = .returned (.tuple #[]) ∧ Hs w' r (aF F x) (aO o x) ∧ w.grownBy w' (some r) := by
  have hT1 : tot (aF F x) = tot F := tot_out (Or.inl hx)
  have ho1 : aO o x = o := by unfold aO; rw [if_neg (by omega)]; rfl
  have hbF : bins F = bins (aF F x) := bins_ext fun j hj => by unfold aF; rw [if_neg (by omega), Nat.add_zero]
  have hH : Hs w r (aF F x) (aO o x) := ⟨by rw [hT1, ho1]; exact h.1, by rw [hT1, ho1, ← hbF]; exact h.2⟩
  clear hT1 ho1 hbF h
  go_enter Try.func11, Try.ntmps11
  go_wp2
  first | go_end0 | refine bodyPost_ret (results_none rfl _ _ _) rfl ?_
  exact ⟨rfl, hH, World.grownBy.refl _ _⟩

/-- Add below the most. -/
theorem add_low (r o : Nat) (x : Int) (F : Nat → Nat) (w : World) (h : Hs w r F o) (hl : tot F + o + 1 < 4096) :
    Calls Try.prog 11 #[.pointer (some ⟨r, 0, none⟩), .int .i64 x] w fun e w' => e = .returned (.tuple #[]) ∧ Hs w' r (aF F x) (aO o x) ∧ w.grownBy w' (some r) := by
  by_cases h0 : x < 0
  · exact add_neg r o x F w h h0
  · by_cases h1 : x < 240
    · obtain ⟨n, rfl⟩ := Int.eq_ofNat_of_zero_le (show 0 ≤ x by omega)
      exact add_in_low r o n F w h (by omega) hl
    · exact add_over_low r o x F w h (by omega) hl
/-- Add at the most. -/
theorem add_full (r o : Nat) (x : Int) (F : Nat → Nat) (w : World) (h : Hs w r F o) (hx : 0 ≤ x) (hl : tot F + o + 1 = 4096) :
    Calls Try.prog 11 #[.pointer (some ⟨r, 0, none⟩), .int .i64 x] w fun e w' => e = .returned (.tuple #[]) ∧ Hs w' r (fun j => aF F x j / 2) (aO o x / 2) ∧ w.grownBy w' (some r) := by
  by_cases h1 : x < 240
  · obtain ⟨n, rfl⟩ := Int.eq_ofNat_of_zero_le hx
    exact add_in_full r o n F w h (by omega) hl
  · exact add_over_full r o x F w h (by omega) hl

end Go.Proofs.Ytocnaopjefhbjaa.W
