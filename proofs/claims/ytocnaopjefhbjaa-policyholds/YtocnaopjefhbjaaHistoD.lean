/- Contracts of package histo: Spread, Counts, and the document's example. -/
import Derived.Test.YtocnaopjefhbjaaHistoC
namespace Go.Proofs.Ytocnaopjefhbjaa.W
open Go.RowKit

def sq (F : Nat → Nat) : Nat → Nat := fun j => F j * F j
theorem sq_le (F : Nat → Nat) {k T : Nat} (hk : k ≤ 240) (hT : tot F = T) (hl : T < 4096) : sumTo (sq F) k ≤ 16777216 := by
  have h1 := sumTo_mono (sq F) hk
  have h2 := sumTo_sq F 240
  have h3 : sumTo F 240 * sumTo F 240 ≤ 4096 * 4096 := by unfold tot at hT; rw [hT]; exact Nat.mul_le_mul (by omega) (by omega)
  unfold sq at *
  omega
theorem spread_is {F : Nat → Nat} {T Q : Nat} (hT : tot F = T) (hQ : sumTo (sq F) 240 = Q) : spreadB F = decide (0 < T ∧ 5 * T * T ≤ 240 * Q) := by
  unfold spreadB; unfold sq at hQ; rw [hT, hQ]

set_option maxRecDepth 100000 in
set_option maxHeartbeats 800000 in
theorem spread_any (r o : Nat) (F : Nat → Nat) (w : World) (h : Hs w r F o) :
    Calls Try.prog 26 #[.pointer (some ⟨r, 0, none⟩)] w fun e w' => e = .returned (.bool (spreadB F)) ∧ ∃ n, w' = w.drewN n := by
  have hlt := h.1
  have c0 := h.cellIn
  have H := Lib.hid h.2
  obtain ⟨T, hT⟩ : ∃ T, tot F = T := ⟨_, rfl⟩
  rw [hT] at hlt c0 H
  have HT := Lib.hid hT
  clear h hT
  obtain ⟨Q, hQ⟩ : ∃ Q, sumTo (sq F) 240 = Q := ⟨_, rfl⟩
  have E := Lib.hid (spread_is HT.out hQ)
  have hQ1 : Q ≤ 16777216 := by rw [← hQ]; exact sq_le F (Nat.le_refl _) HT.out (by omega)
  have HQ := Lib.hid hQ
  clear hQ
  by_cases hz : T = 0
  · subst hz
    go_enter Try.func26, Try.ntmps26
    go_wp2
    go_ret
    exact ⟨ret_bool (by rw [E.out]; simp), 0, rfl⟩
  · have hdz : ((T : Int) == 0) = false := by simp; omega
    go_enter Try.func26, Try.ntmps26
    go_wp2_with (with_reducible refine wpList_load_head rfl 29 (.tmp 13) rfl r rfl (bins F) _ _ _ 240 3 H.out Try.underlying29 (by rw [bins_len]; exact sizeRow) ?_)
    clear hdz
    go_loopg [3, 15] 240 (fun gk vb vi wr => ∃ k : Nat, vi = .int .i64 (k : Int) ∧ vb = .int .i64 ((sumTo (sq F) k : Nat) : Int) ∧ k + gk = 240 ∧ w = wr)
    case atStart => exact ⟨0, rfl, rfl, rfl, rfl⟩
    case round =>
      obtain ⟨k, rfl, rfl, hk, rfl⟩ := hrel
      have HK := Lib.hid hk
      clear hk
      by_cases hlt2 : k < 240
      · have hki : (k : Int) < 240 := by omega
        obtain ⟨f, hf⟩ : ∃ f, F k = f := ⟨_, rfl⟩
        obtain ⟨S, hS⟩ : ∃ S, sumTo (sq F) k = S := ⟨_, rfl⟩
        have hS1 : sumTo (sq F) (k + 1) = S + f * f := by simp only [sumTo]; rw [hS]; unfold sq; rw [hf]
        have hS2 : S + f * f ≤ 16777216 := by rw [← hS1]; exact sq_le F (by omega) HT.out (by omega)
        have hff : ((f * f : Nat) : Int) = (f : Int) * (f : Int) := Int.natCast_mul _ _
        have hff0 : 0 ≤ (f : Int) * (f : Int) := by omega
        have hff1 : (S : Int) + (f : Int) * (f : Int) ≤ 16777216 := by omega
        have hff2 : (f : Int) * (f : Int) ≤ 16777216 := by omega
        have hb := bins_at F hlt2
        rw [hf] at hb
        rw [hS]
        have HB := Lib.hid hb
        have HS1 := Lib.hid hS1
        have HFF := Lib.hid hff
        clear hb hS hf hS1 hff hS2
        go_wp2_with (with_reducible refine wpList_index_cell rfl 29 (.tmp 14) (.tmp 15) rfl 240 3 Try.underlying29 _ Try.underlying3 rfl sizeInt (bins F) rfl .i64 k rfl hlt2 (.int .i64 (f : Int)) HB.out ?_)
        go_roundg (gk - 1)
        case measure => have := HK.out; omega
        case rel => exact ⟨k + 1, by go_num, by rw [HS1.out, Int.natCast_add, HFF.out], by have := HK.out; omega, rfl⟩
      · obtain rfl : k = 240 := by have := HK.out; omega
        rw [HQ.out]
        have hTT : T * T ≤ 4096 * 4096 := Nat.mul_le_mul (by omega) (by omega)
        have hTi : ((T * T : Nat) : Int) = (T : Int) * (T : Int) := Int.natCast_mul _ _
        have e5 : (5 * (T : Int)) * (T : Int) = 5 * ((T * T : Nat) : Int) := by rw [hTi, Int.mul_assoc]
        have hw1 : IntKind.i64.wrap (240 * (Q : Int)) = 240 * (Q : Int) := wrap_small (by omega) (by omega)
        have hw2 : IntKind.i64.wrap (5 * (T : Int)) = 5 * (T : Int) := wrap_small (by omega) (by omega)
        have hw3 : IntKind.i64.wrap (5 * (T : Int) * (T : Int)) = 5 * (T : Int) * (T : Int) := by rw [e5]; exact wrap_small (by omega) (by omega)
        have HE5 := Lib.hid e5
        clear e5 hTi hTT
        go_wp2_with fail
        go_quiet (fail)
        go_wp2_with fail
        go_ret
        refine ⟨ret_bool ?_, _, rfl⟩
        rw [E.out, Bool.eq_iff_iff]
        have h5 : 5 * T * T = 5 * (T * T) := Nat.mul_assoc _ _ _
        rw [h5]
        simp [HE5.out]
        omega

theorem Hs.lies {w : World} {r o : Nat} {F : Nat → Nat} (h : Hs w r F o) : Lies w w.heap.size (some ⟨r, 0, none⟩) (bins F) := by
  have hl := h.lt
  intro j u hu
  refine ⟨_, rfl, hl, ?_⟩
  rw [add_lit0]
  have hj := (List.getElem?_eq_some_iff.1 hu).1
  refine cellL h.2 j u ?_
  rw [List.getElem?_append_left hj]; exact hu
theorem ones_bins (F : Nat → Nat) : ∀ u ∈ bins F, u.oneCell' = true := by
  intro u hu
  obtain ⟨_, _, rfl⟩ := List.mem_map.1 hu
  rfl
end Go.Proofs.Ytocnaopjefhbjaa.W
