/- The document's example of package host; the law HostApart. -/
import Derived.Test.YthmmobhbakmbpaaHostD
namespace Go.Proofs.Ythmmobhbakmbpaa.W
open Go.RowKit

def noH : Int → Option Ht := fun _ => none
/-- Two hosts. -/
def twoH (a b : Int) (v u : Option Ht) : Int → Option Ht := updZ (updZ noH a v) b u
theorem fr_of {H : Int → Option Ht} {x : Int} {d : Bool} {s u : Nat} (h : H x = some (d, s, u)) : fr H x = (s : Int) - (u : Int) := by unfold fr; rw [h]
theorem fr_no {H : Int → Option Ht} {x : Int} (h : H x = none) : fr H x = 0 := by unfold fr; rw [h]
theorem add_ok {H : Int → Option Ht} {x n : Int} (hx : isH x = true) (h1 : 1 ≤ n) (h2 : n ≤ 4096) (hv : H x = none) : addC H x n = 0 ∧ addH H x n = updZ H x (some (false, n.toNat, 0)) := by
  have e : addC H x n = 0 := by unfold addC; rw [if_neg (by rw [hx]; simp; omega), hv]; rfl
  exact ⟨e, by unfold addH; rw [e]; rfl⟩
theorem tk_ok {H : Int → Option Ht} {x m : Int} {s u : Nat} (hv : H x = some (false, s, u)) (h1 : 0 ≤ m) (h2 : m ≤ (s : Int) - (u : Int)) : tkB H x m = true ∧ tkH H x m = updZ H x (some (false, s, u + m.toNat)) := by
  constructor
  · unfold tkB; rw [hv]; simp; omega
  · unfold tkH; rw [hv]; exact if_pos ⟨h1, h2⟩
theorem tk_no {H : Int → Option Ht} {x m : Int} {s u : Nat} (hv : H x = some (false, s, u)) (h2 : (s : Int) - (u : Int) < m) : tkB H x m = false ∧ tkH H x m = H := by
  constructor
  · unfold tkB; rw [hv]; simp; omega
  · unfold tkH; rw [hv]; exact if_neg (by omega)
theorem tk_gone {H : Int → Option Ht} {x m : Int} (hv : H x = none) : tkB H x m = false ∧ tkH H x m = H := by
  constructor
  · unfold tkB; rw [hv]
  · unfold tkH; rw [hv]
theorem gv_gone {H : Int → Option Ht} {x m : Int} (hv : H x = none) : gvB H x m = false ∧ gvH H x m = H := by
  constructor
  · unfold gvB; rw [hv]
  · unfold gvH; rw [hv]
theorem gv_ok {H : Int → Option Ht} {x m : Int} {d : Bool} {s u : Nat} (hv : H x = some (d, s, u)) (h1 : 0 ≤ m) (h2 : m ≤ (u : Int)) : gvB H x m = true ∧ gvH H x m = updZ H x (lv d s (u - m.toNat)) := by
  constructor
  · unfold gvB; rw [hv]; simp; omega
  · unfold gvH; rw [hv]; exact if_pos ⟨h1, h2⟩
theorem gv_no {H : Int → Option Ht} {x m : Int} {d : Bool} {s u : Nat} (hv : H x = some (d, s, u)) (h2 : (u : Int) < m) : gvB H x m = false ∧ gvH H x m = H := by
  constructor
  · unfold gvB; rw [hv]; simp; omega
  · unfold gvH; rw [hv]; exact if_neg (by omega)
theorem dr_ok {H : Int → Option Ht} {x : Int} {s u : Nat} (hv : H x = some (false, s, u)) : drC H x = 0 ∧ drH H x = updZ H x (lv true s u) := by
  constructor
  · unfold drC; rw [hv]
  · unfold drH; rw [hv]
theorem fa_ok {H : Int → Option Ht} {x : Int} {v : Ht} (hv : H x = some v) : faC H x = 0 := by unfold faC; rw [hv]
theorem up_ok {H : Int → Option Ht} {x : Int} {s u : Nat} (hv : H x = some (false, s, u)) : upB H x = true := by unfold upB; rw [hv]; rfl
/-- The example's hosts. -/
def exH : Int → Option Ht := updZ (updZ noH 0 (some (false, 8, 0))) 1 (some (false, 4, 0))
theorem exH_fit : fit exH 3 = (1, true) := by decide

set_option maxRecDepth 100000 in
set_option maxHeartbeats 3200000 in
theorem head13 (w : World) : Calls Try.prog 19 #[] w fun e w' => e = .returned (.bool true) ∧ Below w.heap.size w w' := by
  go_enter Try.func19, Try.ntmps19
  go_wp2_with fail
  refine (h_new w).mono ?_
  rintro e w1 ⟨rfl, h1, b1⟩
  obtain ⟨l, hl⟩ : ∃ l, w.heap.size = l := ⟨_, rfl⟩
  have hll : w.heap.size ≤ l := Nat.le_of_eq hl
  rw [hl] at h1
  rw [hl]
  clear hl
  change Ho w1 l noH at h1
  go_wp2_with fail
  obtain ⟨e1, e2⟩ := add_ok (H := noH) (x := 0) (n := 8) (by decide) (by decide) (by decide) rfl
  refine (h_add l _ 0 8 _ h1).mono ?_
  rw [e1, e2]
  rintro e w2 ⟨rfl, h2, g2⟩
  have b2 := below_row b1 hll g2 b1.size
  clear e1 e2 h1 b1 g2
  go_wp2_with fail
  obtain ⟨e1, e2⟩ := add_ok (H := updZ noH 0 (some (false, 8, 0))) (x := 1) (n := 4) (by decide) (by decide) (by decide) rfl
  refine (h_add l _ 1 4 _ h2).mono ?_
  rw [show addC (updZ noH 0 (some (false, (8 : Int).toNat, 0))) 1 4 = 0 from e1, show addH (updZ noH 0 (some (false, (8 : Int).toNat, 0))) 1 4 = exH from e2]
  rintro e w3 ⟨rfl, h3, g3⟩
  have b3 := below_row b2 hll g3 b2.size
  clear e1 e2 h2 b2 g3
  go_wp2_with fail
  refine (h_fit l exH 3 _ h3).mono ?_
  rw [exH_fit]
  rintro e w4 ⟨rfl, q4, hw4⟩
  have h4 : Ho w4 l exH := by rw [hw4]; exact h3.drewN _
  have b4 : Below w.heap.size w w4 := by rw [hw4]; exact below_drewN b3 _
  clear hw4 h3 b3
  go_wp2_with fail
  obtain ⟨e1, e2⟩ := tk_ok (H := exH) (x := 1) (m := 3) (s := 4) (u := 0) rfl (by decide) (by decide)
  refine (h_take l exH 1 3 _ h4).mono ?_
  rw [e1, e2]
  rintro e w5 ⟨rfl, h5, g5⟩
  have b5 := below_row b4 hll g5 b4.size
  obtain ⟨H5, hH5⟩ : ∃ H5, H5 = updZ exH 1 (some (false, 4, 3)) := ⟨_, rfl⟩
  change Ho w5 l (updZ exH 1 (some (false, 4, 3))) at h5
  rw [← hH5] at h5
  have hv5 := Lib.hid (show H5 1 = some (false, 4, 3) by rw [hH5, updZ_same])
  clear e1 e2 h4 b4 g5 hH5
  go_wp2_with fail
  refine (h_free l H5 1 _ h5).mono ?_
  rw [fr_of hv5.out]
  rintro e w6 ⟨rfl, q6, hw6⟩
  have h6 : Ho w6 l H5 := by rw [hw6]; exact h5.drewN _
  have b6 : Below w.heap.size w w6 := by rw [hw6]; exact below_drewN b5 _
  clear hw6 h5 b5
  go_wp2_with fail
  obtain ⟨e1, e2⟩ := dr_ok (H := H5) hv5.out
  refine (h_drain l H5 1 _ h6).mono ?_
  rw [e1, e2]
  rintro e w7 ⟨rfl, h7, g7⟩
  have b7 := below_row b6 hll g7 b6.size
  obtain ⟨H7, hH7⟩ : ∃ H7, H7 = updZ H5 1 (lv true 4 3) := ⟨_, rfl⟩
  rw [← hH7] at h7
  have hv7 := Lib.hid (show H7 1 = some (true, 4, 3) by rw [hH7, updZ_same]; rfl)
  clear e1 e2 h6 b6 g7 hH7
  go_wp2_with fail
  refine (h_there l H7 1 _ h7).mono ?_
  rw [hv7.out]
  simp only [Option.isSome]
  rintro e w8 ⟨rfl, rfl⟩
  go_wp2_with fail
  obtain ⟨e1, e2⟩ := gv_ok (H := H7) (m := 3) hv7.out (by decide) (by decide)
  refine (h_give l H7 1 3 _ h7).mono ?_
  rw [e1, e2]
  rintro e w9 ⟨rfl, h9, g9⟩
  have b9 := below_row b7 hll g9 b7.size
  obtain ⟨H9, hH9⟩ : ∃ H9, H9 = updZ H7 1 (lv true 4 (3 - (3 : Int).toNat)) := ⟨_, rfl⟩
  rw [← hH9] at h9
  have hv9 := Lib.hid (show H9 1 = none by rw [hH9, updZ_same]; rfl)
  clear e1 e2 h7 b7 g9 hH9
  go_wp2_with fail
  refine (h_there l H9 1 _ h9).mono ?_
  rw [hv9.out]
  simp only [Option.isSome]
  rintro e w10 ⟨rfl, rfl⟩
  go_wp2_with fail
  go_ret
  exact ⟨rfl, b9⟩

end Go.Proofs.Ythmmobhbakmbpaa.W
