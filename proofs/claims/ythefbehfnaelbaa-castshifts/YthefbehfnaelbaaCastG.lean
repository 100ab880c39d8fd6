/- The law CastShifts: with each number so much more what comes next is so much more; and its walk. -/
import Derived.Test.YthefbehfnaelbaaCastB
namespace Go.Proofs.Ythefbehfnaelbaa.W
open Go.RowKit

theorem shiftL (l : List Int) (y : Int) (y0 : 0 ≤ y) (y1 : y < 16777216) (h1 : 1 ≤ l.length) (h8 : l.length ≤ 8) (hr : ∀ x ∈ l, 1073741824 ≤ x ∧ x ≤ 1073807359) : nextL (l.map (fun x => x + y)) = nextL l + y := by
  match l, h1, h8, hr with
  | [], h1, _, _ => simp at h1
  | [a0], _, _, hr =>
    have r0 := hr a0 (by simp)
    show clip (a0 + y) = clip a0 + y
    rw [clip_in (by omega) (by omega), clip_in (by omega) (by omega)]
  | [a0, a1], _, _, hr =>
    have r0 := hr a0 (by simp)
    have r1 := hr a1 (by simp)
    clear hr
    have e1 : ws ([a0, a1].length : Nat) 0 [a0, a1] = a0 * (-1) + a1 * (2) := by
      simp only [ws, clip_in (x := a0) (by omega) (by omega), clip_in (x := a1) (by omega) (by omega), List.length_cons, List.length_nil]
      omega
    have e2 : ws ([a0 + y, a1 + y].length : Nat) 0 [a0 + y, a1 + y] = a0 * (-1) + a1 * (2) + y * 1 := by
      simp only [ws, clip_in (x := a0 + y) (by omega) (by omega), clip_in (x := a1 + y) (by omega) (by omega), List.length_cons, List.length_nil]
      omega
    show behI [a0 + y, a1 + y] = behI [a0, a1] + y
    have s0 : 0 ≤ a0 * (-1) + a1 * (2) := by omega
    have s1 : a0 * (-1) + a1 * (2) ≤ 100000000000 := by omega
    generalize a0 * (-1) + a1 * (2) = s at *
    rw [beh_form _ 2 e2 rfl (by omega) (by omega), beh_form _ 2 e1 rfl (by omega) (by omega), clip_in (by omega) (by omega), clip_in (by omega) (by omega)]
    omega
  | [a0, a1, a2], _, _, hr =>
    have r0 := hr a0 (by simp)
    have r1 := hr a1 (by simp)
    have r2 := hr a2 (by simp)
    clear hr
    have e1 : ws ([a0, a1, a2].length : Nat) 0 [a0, a1, a2] = a0 * (-2) + a1 * (1) + a2 * (4) := by
      simp only [ws, clip_in (x := a0) (by omega) (by omega), clip_in (x := a1) (by omega) (by omega), clip_in (x := a2) (by omega) (by omega), List.length_cons, List.length_nil]
      omega
    have e2 : ws ([a0 + y, a1 + y, a2 + y].length : Nat) 0 [a0 + y, a1 + y, a2 + y] = a0 * (-2) + a1 * (1) + a2 * (4) + y * 3 := by
      simp only [ws, clip_in (x := a0 + y) (by omega) (by omega), clip_in (x := a1 + y) (by omega) (by omega), clip_in (x := a2 + y) (by omega) (by omega), List.length_cons, List.length_nil]
      omega
    show behI [a0 + y, a1 + y, a2 + y] = behI [a0, a1, a2] + y
    have s0 : 0 ≤ a0 * (-2) + a1 * (1) + a2 * (4) := by omega
    have s1 : a0 * (-2) + a1 * (1) + a2 * (4) ≤ 100000000000 := by omega
    generalize a0 * (-2) + a1 * (1) + a2 * (4) = s at *
    rw [beh_form _ 6 e2 rfl (by omega) (by omega), beh_form _ 6 e1 rfl (by omega) (by omega), clip_in (by omega) (by omega), clip_in (by omega) (by omega)]
    omega
  | [a0, a1, a2, a3], _, _, hr =>
    have r0 := hr a0 (by simp)
    have r1 := hr a1 (by simp)
    have r2 := hr a2 (by simp)
    have r3 := hr a3 (by simp)
    clear hr
    have e1 : ws ([a0, a1, a2, a3].length : Nat) 0 [a0, a1, a2, a3] = a0 * (-3) + a1 * (0) + a2 * (3) + a3 * (6) := by
      simp only [ws, clip_in (x := a0) (by omega) (by omega), clip_in (x := a1) (by omega) (by omega), clip_in (x := a2) (by omega) (by omega), clip_in (x := a3) (by omega) (by omega), List.length_cons, List.length_nil]
      omega
    have e2 : ws ([a0 + y, a1 + y, a2 + y, a3 + y].length : Nat) 0 [a0 + y, a1 + y, a2 + y, a3 + y] = a0 * (-3) + a1 * (0) + a2 * (3) + a3 * (6) + y * 6 := by
      simp only [ws, clip_in (x := a0 + y) (by omega) (by omega), clip_in (x := a1 + y) (by omega) (by omega), clip_in (x := a2 + y) (by omega) (by omega), clip_in (x := a3 + y) (by omega) (by omega), List.length_cons, List.length_nil]
      omega
    show behI [a0 + y, a1 + y, a2 + y, a3 + y] = behI [a0, a1, a2, a3] + y
    have s0 : 0 ≤ a0 * (-3) + a1 * (0) + a2 * (3) + a3 * (6) := by omega
    have s1 : a0 * (-3) + a1 * (0) + a2 * (3) + a3 * (6) ≤ 100000000000 := by omega
    generalize a0 * (-3) + a1 * (0) + a2 * (3) + a3 * (6) = s at *
    rw [beh_form _ 12 e2 rfl (by omega) (by omega), beh_form _ 12 e1 rfl (by omega) (by omega), clip_in (by omega) (by omega), clip_in (by omega) (by omega)]
    omega
  | [a0, a1, a2, a3, a4], _, _, hr =>
    have r0 := hr a0 (by simp)
    have r1 := hr a1 (by simp)
    have r2 := hr a2 (by simp)
    have r3 := hr a3 (by simp)
    have r4 := hr a4 (by simp)
    clear hr
    have e1 : ws ([a0, a1, a2, a3, a4].length : Nat) 0 [a0, a1, a2, a3, a4] = a0 * (-4) + a1 * (-1) + a2 * (2) + a3 * (5) + a4 * (8) := by
      simp only [ws, clip_in (x := a0) (by omega) (by omega), clip_in (x := a1) (by omega) (by omega), clip_in (x := a2) (by omega) (by omega), clip_in (x := a3) (by omega) (by omega), clip_in (x := a4) (by omega) (by omega), List.length_cons, List.length_nil]
      omega
    have e2 : ws ([a0 + y, a1 + y, a2 + y, a3 + y, a4 + y].length : Nat) 0 [a0 + y, a1 + y, a2 + y, a3 + y, a4 + y] = a0 * (-4) + a1 * (-1) + a2 * (2) + a3 * (5) + a4 * (8) + y * 10 := by
      simp only [ws, clip_in (x := a0 + y) (by omega) (by omega), clip_in (x := a1 + y) (by omega) (by omega), clip_in (x := a2 + y) (by omega) (by omega), clip_in (x := a3 + y) (by omega) (by omega), clip_in (x := a4 + y) (by omega) (by omega), List.length_cons, List.length_nil]
      omega
    show behI [a0 + y, a1 + y, a2 + y, a3 + y, a4 + y] = behI [a0, a1, a2, a3, a4] + y
    have s0 : 0 ≤ a0 * (-4) + a1 * (-1) + a2 * (2) + a3 * (5) + a4 * (8) := by omega
    have s1 : a0 * (-4) + a1 * (-1) + a2 * (2) + a3 * (5) + a4 * (8) ≤ 100000000000 := by omega
    generalize a0 * (-4) + a1 * (-1) + a2 * (2) + a3 * (5) + a4 * (8) = s at *
    rw [beh_form _ 20 e2 rfl (by omega) (by omega), beh_form _ 20 e1 rfl (by omega) (by omega), clip_in (by omega) (by omega), clip_in (by omega) (by omega)]
    omega
  | [a0, a1, a2, a3, a4, a5], _, _, hr =>
    have r0 := hr a0 (by simp)
    have r1 := hr a1 (by simp)
    have r2 := hr a2 (by simp)
    have r3 := hr a3 (by simp)
    have r4 := hr a4 (by simp)
    have r5 := hr a5 (by simp)
    clear hr
    have e1 : ws ([a0, a1, a2, a3, a4, a5].length : Nat) 0 [a0, a1, a2, a3, a4, a5] = a0 * (-5) + a1 * (-2) + a2 * (1) + a3 * (4) + a4 * (7) + a5 * (10) := by
      simp only [ws, clip_in (x := a0) (by omega) (by omega), clip_in (x := a1) (by omega) (by omega), clip_in (x := a2) (by omega) (by omega), clip_in (x := a3) (by omega) (by omega), clip_in (x := a4) (by omega) (by omega), clip_in (x := a5) (by omega) (by omega), List.length_cons, List.length_nil]
      omega
    have e2 : ws ([a0 + y, a1 + y, a2 + y, a3 + y, a4 + y, a5 + y].length : Nat) 0 [a0 + y, a1 + y, a2 + y, a3 + y, a4 + y, a5 + y] = a0 * (-5) + a1 * (-2) + a2 * (1) + a3 * (4) + a4 * (7) + a5 * (10) + y * 15 := by
      simp only [ws, clip_in (x := a0 + y) (by omega) (by omega), clip_in (x := a1 + y) (by omega) (by omega), clip_in (x := a2 + y) (by omega) (by omega), clip_in (x := a3 + y) (by omega) (by omega), clip_in (x := a4 + y) (by omega) (by omega), clip_in (x := a5 + y) (by omega) (by omega), List.length_cons, List.length_nil]
      omega
    show behI [a0 + y, a1 + y, a2 + y, a3 + y, a4 + y, a5 + y] = behI [a0, a1, a2, a3, a4, a5] + y
    have s0 : 0 ≤ a0 * (-5) + a1 * (-2) + a2 * (1) + a3 * (4) + a4 * (7) + a5 * (10) := by omega
    have s1 : a0 * (-5) + a1 * (-2) + a2 * (1) + a3 * (4) + a4 * (7) + a5 * (10) ≤ 100000000000 := by omega
    generalize a0 * (-5) + a1 * (-2) + a2 * (1) + a3 * (4) + a4 * (7) + a5 * (10) = s at *
    rw [beh_form _ 30 e2 rfl (by omega) (by omega), beh_form _ 30 e1 rfl (by omega) (by omega), clip_in (by omega) (by omega), clip_in (by omega) (by omega)]
    omega
  | [a0, a1, a2, a3, a4, a5, a6], _, _, hr =>
    have r0 := hr a0 (by simp)
    have r1 := hr a1 (by simp)
    have r2 := hr a2 (by simp)
    have r3 := hr a3 (by simp)
    have r4 := hr a4 (by simp)
    have r5 := hr a5 (by simp)
    have r6 := hr a6 (by simp)
    clear hr
    have e1 : ws ([a0, a1, a2, a3, a4, a5, a6].length : Nat) 0 [a0, a1, a2, a3, a4, a5, a6] = a0 * (-6) + a1 * (-3) + a2 * (0) + a3 * (3) + a4 * (6) + a5 * (9) + a6 * (12) := by
      simp only [ws, clip_in (x := a0) (by omega) (by omega), clip_in (x := a1) (by omega) (by omega), clip_in (x := a2) (by omega) (by omega), clip_in (x := a3) (by omega) (by omega), clip_in (x := a4) (by omega) (by omega), clip_in (x := a5) (by omega) (by omega), clip_in (x := a6) (by omega) (by omega), List.length_cons, List.length_nil]
      omega
    have e2 : ws ([a0 + y, a1 + y, a2 + y, a3 + y, a4 + y, a5 + y, a6 + y].length : Nat) 0 [a0 + y, a1 + y, a2 + y, a3 + y, a4 + y, a5 + y, a6 + y] = a0 * (-6) + a1 * (-3) + a2 * (0) + a3 * (3) + a4 * (6) + a5 * (9) + a6 * (12) + y * 21 := by
      simp only [ws, clip_in (x := a0 + y) (by omega) (by omega), clip_in (x := a1 + y) (by omega) (by omega), clip_in (x := a2 + y) (by omega) (by omega), clip_in (x := a3 + y) (by omega) (by omega), clip_in (x := a4 + y) (by omega) (by omega), clip_in (x := a5 + y) (by omega) (by omega), clip_in (x := a6 + y) (by omega) (by omega), List.length_cons, List.length_nil]
      omega
    show behI [a0 + y, a1 + y, a2 + y, a3 + y, a4 + y, a5 + y, a6 + y] = behI [a0, a1, a2, a3, a4, a5, a6] + y
    have s0 : 0 ≤ a0 * (-6) + a1 * (-3) + a2 * (0) + a3 * (3) + a4 * (6) + a5 * (9) + a6 * (12) := by omega
    have s1 : a0 * (-6) + a1 * (-3) + a2 * (0) + a3 * (3) + a4 * (6) + a5 * (9) + a6 * (12) ≤ 100000000000 := by omega
    generalize a0 * (-6) + a1 * (-3) + a2 * (0) + a3 * (3) + a4 * (6) + a5 * (9) + a6 * (12) = s at *
    rw [beh_form _ 42 e2 rfl (by omega) (by omega), beh_form _ 42 e1 rfl (by omega) (by omega), clip_in (by omega) (by omega), clip_in (by omega) (by omega)]
    omega
  | [a0, a1, a2, a3, a4, a5, a6, a7], _, _, hr =>
    have r0 := hr a0 (by simp)
    have r1 := hr a1 (by simp)
    have r2 := hr a2 (by simp)
    have r3 := hr a3 (by simp)
    have r4 := hr a4 (by simp)
    have r5 := hr a5 (by simp)
    have r6 := hr a6 (by simp)
    have r7 := hr a7 (by simp)
    clear hr
    have e1 : ws ([a0, a1, a2, a3, a4, a5, a6, a7].length : Nat) 0 [a0, a1, a2, a3, a4, a5, a6, a7] = a0 * (-7) + a1 * (-4) + a2 * (-1) + a3 * (2) + a4 * (5) + a5 * (8) + a6 * (11) + a7 * (14) := by
      simp only [ws, clip_in (x := a0) (by omega) (by omega), clip_in (x := a1) (by omega) (by omega), clip_in (x := a2) (by omega) (by omega), clip_in (x := a3) (by omega) (by omega), clip_in (x := a4) (by omega) (by omega), clip_in (x := a5) (by omega) (by omega), clip_in (x := a6) (by omega) (by omega), clip_in (x := a7) (by omega) (by omega), List.length_cons, List.length_nil]
      omega
    have e2 : ws ([a0 + y, a1 + y, a2 + y, a3 + y, a4 + y, a5 + y, a6 + y, a7 + y].length : Nat) 0 [a0 + y, a1 + y, a2 + y, a3 + y, a4 + y, a5 + y, a6 + y, a7 + y] = a0 * (-7) + a1 * (-4) + a2 * (-1) + a3 * (2) + a4 * (5) + a5 * (8) + a6 * (11) + a7 * (14) + y * 28 := by
      simp only [ws, clip_in (x := a0 + y) (by omega) (by omega), clip_in (x := a1 + y) (by omega) (by omega), clip_in (x := a2 + y) (by omega) (by omega), clip_in (x := a3 + y) (by omega) (by omega), clip_in (x := a4 + y) (by omega) (by omega), clip_in (x := a5 + y) (by omega) (by omega), clip_in (x := a6 + y) (by omega) (by omega), clip_in (x := a7 + y) (by omega) (by omega), List.length_cons, List.length_nil]
      omega
    show behI [a0 + y, a1 + y, a2 + y, a3 + y, a4 + y, a5 + y, a6 + y, a7 + y] = behI [a0, a1, a2, a3, a4, a5, a6, a7] + y
    have s0 : 0 ≤ a0 * (-7) + a1 * (-4) + a2 * (-1) + a3 * (2) + a4 * (5) + a5 * (8) + a6 * (11) + a7 * (14) := by omega
    have s1 : a0 * (-7) + a1 * (-4) + a2 * (-1) + a3 * (2) + a4 * (5) + a5 * (8) + a6 * (11) + a7 * (14) ≤ 100000000000 := by omega
    generalize a0 * (-7) + a1 * (-4) + a2 * (-1) + a3 * (2) + a4 * (5) + a5 * (8) + a6 * (11) + a7 * (14) = s at *
    rw [beh_form _ 56 e2 rfl (by omega) (by omega), beh_form _ 56 e1 rfl (by omega) (by omega), clip_in (by omega) (by omega), clip_in (by omega) (by omega)]
    omega
  | a0 :: a1 :: a2 :: a3 :: a4 :: a5 :: a6 :: a7 :: a8 :: t, _, h8, _ => simp at h8

theorem shift_next (l : List Int) (y : Int) (y0 : 0 ≤ y) (y1 : y < 16777216) (h1 : 1 ≤ l.length) (hr : ∀ x ∈ l, 1073741824 ≤ x ∧ x ≤ 1073807359) : nextI (l.map (fun x => x + y)) = nextI l + y := by
  unfold nextI
  rw [last8_map]
  refine shiftL _ y y0 y1 (by rw [last8_len]; omega) (by rw [last8_len]; omega) ?_
  intro x hx
  exact hr x (List.mem_of_mem_drop hx)

/-- What the law makes of a number. -/
def smallI (x : Int) : Int := 1073741824 + bits .and .i64 x 65535
theorem small_range (x : Int) : 1073741824 ≤ smallI x ∧ smallI x ≤ 1073807359 := by
  obtain ⟨r, hr, r1⟩ := and_nat x 65535 16 65536 (by decide) (by decide) (by decide)
  unfold smallI
  rw [hr]
  omega

set_option maxRecDepth 100000 in
set_option maxHeartbeats 3200000 in
theorem shifts_law (A0 : Option Addr) (k c : Nat) (xs : List Int) (y : Int) (w : World) (hk : xs.length = k) (hc : k ≤ c) (hm : c ≤ maxLen) (hA0 : Lies w w.heap.size A0 (ints xs)) :
    Calls Try.prog 6 #[.slice A0 k c, .int .i64 y] w fun e w' => e = .returned (.bool true) ∧ Below w.heap.size w w' := by
  simp only [maxLen] at hm
  have hkm : k ≤ 9223372036854775807 := by omega
  have HK := Lib.hid hk.symm
  obtain ⟨i0, hi, hz0, hz1, hz2⟩ := info_parts infoI
  obtain ⟨b, hb, b1⟩ := and_nat y 16777215 24 16777216 (by decide) (by decide) (by decide)
  clear hk hc hm
  by_cases h0 : k = 0
  · go_enter Try.func6, Try.ntmps6
    go_wp2_with fail
    refine (head_true _).mono ?_
    rintro e w1 ⟨rfl, hb1⟩
    go_wp2_with fail
    go_ret
    exact ⟨rfl, hb1⟩
  have hk0 : ((k : Int) == 0) = false := by simp; omega
  by_cases h30 : 30 < k
  · clear h0
    go_enter Try.func6, Try.ntmps6
    go_wp2_with fail
    refine (head_true _).mono ?_
    rintro e w1 ⟨rfl, hb1⟩
    go_wp2_with fail
    go_ret
    exact ⟨rfl, hb1⟩
  have hk1 : 1 ≤ k := by omega

  have b2 : (b : Int) < 16777216 := by omega
  obtain ⟨v, hv⟩ : ∃ v, nextI (xs.map smallI) = v := ⟨_, rfl⟩
  have E := shift_next (xs.map smallI) b (by omega) b2 (by rw [List.length_map, ← HK.out]; exact hk1) (by
    intro z hz
    obtain ⟨x, _, rfl⟩ := List.mem_map.1 hz
    exact small_range x)
  have hvr := next_range (xs.map smallI)
  rw [hv] at E hvr
  obtain ⟨v0, v1⟩ := hvr
  have E1 := Lib.hid hv
  have E2 := Lib.hid E
  have hk30 : decide ((30 : Int) < (k : Int)) = false := by simp; omega
  have H30 := Lib.hid h30
  clear hv E hkm h0 h30
  go_enter Try.func6, Try.ntmps6
  go_wp2_with fail
  refine (head_true _).mono ?_
  rintro e w1 ⟨rfl, hb1⟩
  go_wp2_with fail
  have hs1 := hb1.size
  obtain ⟨s, hs⟩ : ∃ s, w1.heap.size = s := ⟨_, rfl⟩
  have own1 : ((w1.alloc (.cells #[] 2)).alloc (.cells #[] 2)).ownsRow w.heap.size 2 1 (.slice (some ⟨s, 0, none⟩) 0 0) 0 [] := by rw [← hs]; exact (own_empty hs1).alloc _
  have own2 : ((w1.alloc (.cells #[] 2)).alloc (.cells #[] 2)).ownsRow w.heap.size 2 1 (.slice (some ⟨s + 1, 0, none⟩) 0 0) 0 [] := by
    have h := own_empty (w := w1.alloc (.cells #[] 2)) (B := w.heap.size) (e := 2) (by simp; omega)
    simpa [hs] using h
  have hb2 : Below w.heap.size w ((w1.alloc (.cells #[] 2)).alloc (.cells #[] 2)) := (hb1.alloc hs1 _).alloc (by simp; omega) _
  rw [hs]
  clear hs hb1 hs1
  go_loopg [5, 6, 25] k (fun gk v5 v6 vi wr => ∃ i g1 cap1 g2 cap2 : Nat, vi = .int .i64 (i : Int) ∧ v5 = .slice (some ⟨g1, 0, none⟩) i cap1 ∧ v6 = .slice (some ⟨g2, 0, none⟩) i cap2 ∧ i + gk = k ∧ g1 ≠ g2 ∧
    wr.ownsRow w.heap.size 2 1 (.slice (some ⟨g1, 0, none⟩) i cap1) i (ints ((xs.take i).map smallI)) ∧ wr.ownsRow w.heap.size 2 1 (.slice (some ⟨g2, 0, none⟩) i cap2) i (ints (((xs.take i).map smallI).map (fun x => x + (b : Int)))) ∧ Below w.heap.size w wr)
  case atStart => exact ⟨0, s, 0, s + 1, 0, rfl, rfl, rfl, by omega, by omega, own1, own2, hb2⟩
  case round =>
    clear own1 own2 hb2
    obtain ⟨i, g1, cap1, g2, cap2, rfl, rfl, rfl, hik, hne, own1, own2, hbz⟩ := hrel
    have HIK := Lib.hid hik
    have hsz := hbz.size
    by_cases hlt : i < k
    · obtain ⟨ad, x, rfl, hblk, hx, hcx⟩ := hA0.int (show i < xs.length by rw [← HK.out]; exact hlt)
      have hcx' : wr.cell? (ad.add i) = some (.int .i64 x) := by rw [hbz.cell (by rw [blk_add]; exact hblk)]; exact hcx
      have HX := Lib.hid hx
      obtain ⟨r, hr, r1⟩ := and_nat x 65535 16 65536 (by decide) (by decide) (by decide)
      have r2 : (r : Int) < 65536 := by omega
      have hi30 : (i : Int) < 30 := by have := H30.out; omega
      have HR := Lib.hid hr
      have HNE := Lib.hid hne
      have HTK := Lib.hid (show (xs.take (i + 1)).map smallI = (xs.take i).map smallI ++ [1073741824 + (r : Int)] by rw [take_snoc hx, List.map_append]; simp [smallI, hr])
      obtain ⟨l1, hl1⟩ : ∃ l1, (xs.take i).map smallI = l1 := ⟨_, rfl⟩
      rw [hl1] at own1 own2 HTK
      obtain ⟨l2, hl2⟩ : ∃ l2, l1.map (fun x => x + (b : Int)) = l2 := ⟨_, rfl⟩
      rw [hl2] at own2
      have HL2 := Lib.hid hl2
      clear hik hcx hx hl1 hl2 hne
      go_wp2_with (first
        | (at_builtin; refine wpList_app1 rfl (.tmp 32) (.tmp 34) 22 rfl w.heap.size 2 i0 (.int .i64 0) 8 Try.underlying22 hi hz0 hz1 hz2 rfl (.slice (some ⟨g1, 0, none⟩) i cap1) i (ints l1) rfl own1 (.int .i64 (1073741824 + (r : Int))) _ rfl _ rfl rfl (by have := H30.out; omega) (by have := H30.out; omega) hsz ?_; intro g1' cap1' w4 own4 hg4 hat4 hlt4; have own5 := own_off own2 hg4 HNE.out.symm; have hb4 := hbz.grown hg4 hsz (fun j hj => by simp [Value.ownBlock] at hj; have := (own_cap own1).2.2; omega); have hsz4 := hb4.size; have hle4 := hg4.size)
        | (at_builtin; refine wpList_app1 rfl (.tmp 36) (.tmp 40) 22 rfl w.heap.size 2 i0 (.int .i64 0) 8 Try.underlying22 hi hz0 hz1 hz2 rfl (.slice (some ⟨g2, 0, none⟩) i cap2) i (ints l2) rfl own5 (.int .i64 (1073741824 + (r : Int) + (b : Int))) _ rfl _ rfl rfl (by have := H30.out; omega) (by have := H30.out; omega) hsz4 ?_; intro g2' cap2' w6 own6 hg6 hat6 hlt6))
      have n1 : g1' ≠ g2 := by
        have := (own_cap own2).2.1
        rcases hat4 with h | h
        · simp [Value.ownBlock] at h; have := HNE.out; omega
        · omega
      have hb6 := hb4.grown hg6 hsz4 (fun j hj => by simp [Value.ownBlock] at hj; have := (own_cap own2).2.2; omega)
      have own7 := own_off own4 hg6 n1
      have n2 : g1' ≠ g2' := by
        have := (own_cap own4).2.1
        rcases hat6 with h | h
        · simp [Value.ownBlock] at h; omega
        · omega
      have own8 : w6.ownsRow w.heap.size 2 1 (.slice (some ⟨g1', 0, none⟩) (i + 1) cap1') (i + 1) (ints ((xs.take (i + 1)).map smallI)) := by rw [HTK.out]; simpa using own7
      have own9 : w6.ownsRow w.heap.size 2 1 (.slice (some ⟨g2', 0, none⟩) (i + 1) cap2') (i + 1) (ints (((xs.take (i + 1)).map smallI).map (fun x => x + (b : Int)))) := by rw [HTK.out, List.map_append, HL2.out]; simpa using own6
      clear own1 own2 own4 own5 own6 own7 hg4 hg6 hat4 hat6 hlt4 hlt6 hb4 hbz hsz hsz4 hle4 n1 hcx' hr
      go_roundg (gk - 1)
      case measure => have := HIK.out; omega
      case rel => exact ⟨i + 1, g1', cap1', g2', cap2', by go_num, rfl, rfl, by have := HIK.out; omega, n2, own8, own9, hb6⟩
    · rw [List.take_of_length_le (by rw [← HK.out]; omega)] at own1 own2
      obtain rfl : i = k := by omega
      have HI := Lib.hid HK.out
      clear hik HIK hlt
      go_wp2_with fail
      refine (next_any _ _ i cap2 ((xs.map smallI).map (fun x => x + (b : Int))) _ (by rw [List.length_map, List.length_map]; exact HI.out) (own_cap own2).1 (own_max own2) (lies_own own2)).mono ?_
      rintro e w5 ⟨rfl, q5, hw5⟩
      rw [E2.out]
      have hb5 := below_next hbz hw5
      have hL := lies_next (lies_own own1) hw5
      have hcm := own_max own1
      have hcc := (own_cap own1).1
      clear hw5 own1 own2 hbz hsz
      go_wp2_with fail
      refine (next_any _ _ i cap1 (xs.map smallI) _ (by rw [List.length_map]; exact HI.out) hcc hcm hL).mono ?_
      rintro e w6 ⟨rfl, q6, hw6⟩
      rw [E1.out]
      have hb6 := below_next hb5 hw6
      clear hw6 hb5 hL
      have hself : (v + (b : Int) == v + (b : Int)) = true := by simp
      go_wp2_with fail
      go_ret
      exact ⟨rfl, hb6⟩
end Go.Proofs.Ythefbehfnaelbaa.W
