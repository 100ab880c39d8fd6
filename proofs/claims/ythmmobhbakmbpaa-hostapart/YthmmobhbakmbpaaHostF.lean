/- The law HostApart. -/
import Derived.Test.YthmmobhbakmbpaaHostE
namespace Go.Proofs.Ythmmobhbakmbpaa.W
open Go.RowKit

theorem fr_new {H : Int → Option Ht} {x n : Int} {d : Bool} (h : H x = some (d, n.toNat, 0)) (hn : 1 ≤ n) : fr H x = n := by rw [fr_of h]; omega

set_option maxRecDepth 100000 in
set_option maxHeartbeats 6400000 in
theorem apart13_walk (x0 x1 x2 : Int) (w : World) :
    Calls Try.prog 8 #[.int .i64 x0, .int .i64 x1, .int .i64 x2] w fun e w' => e = .returned (.bool true) ∧ Below w.heap.size w w' := by
  obtain ⟨p, hp, hp1⟩ := and_nat x0 4095 12 4096 (by decide) (by decide) (by decide)
  obtain ⟨q, hq, hq1⟩ := and_nat x1 4095 12 4096 (by decide) (by decide) (by decide)
  obtain ⟨r, hr, hr1⟩ := and_nat x2 4095 12 4096 (by decide) (by decide) (by decide)
  have hpI : (p : Int) < 4096 := by omega
  have hqI : (q : Int) < 4096 := by omega
  have hrI : (r : Int) < 4096 := by omega
  go_enter Try.func8, Try.ntmps8
  go_wp2_with fail
  refine (head13 _).mono ?_
  rintro e w0 ⟨rfl, b0⟩
  go_wp2_with fail
  clear hp hq hr
  generalize hA : 1 + (p : Int) = a
  generalize hB : 1 + (q : Int) = b
  generalize hM : (r : Int) = m
  have ha1 := Lib.hid (show 1 ≤ a ∧ a ≤ 4096 by omega)
  have hb1 := Lib.hid (show 1 ≤ b ∧ b ≤ 4096 by omega)
  have hm0 := Lib.hid (show 0 ≤ m by omega)
  clear hpI hqI hrI hp1 hq1 hr1 hA hB hM
  refine (h_new w0).mono ?_
  rintro e w1 ⟨rfl, h1, bb1⟩
  have b1 := b0.trans (bb1.mono b0.size)
  obtain ⟨l, hl⟩ : ∃ l, w0.heap.size = l := ⟨_, rfl⟩
  have hll : w.heap.size ≤ l := by rw [← hl]; exact b0.size
  rw [hl] at h1
  rw [hl]
  clear hl b0 bb1
  change Ho w1 l noH at h1
  go_wp2_with fail
  obtain ⟨e1, e2⟩ := add_ok (H := noH) (x := 3) (n := a) (by decide) ha1.out.1 ha1.out.2 rfl
  refine (h_add l _ 3 a _ h1).mono ?_
  rw [e1, e2]
  rintro e w2 ⟨rfl, h2, g2⟩
  have b2 := below_row b1 hll g2 b1.size
  obtain ⟨H2, hH2⟩ : ∃ H2, H2 = updZ noH 3 (some (false, a.toNat, 0)) := ⟨_, rfl⟩
  rw [← hH2] at h2
  have hv2 := Lib.hid (show H2 3 = some (false, a.toNat, 0) ∧ H2 9 = none by rw [hH2]; exact ⟨updZ_same _ _ _, updZ_ne _ _ (by decide)⟩)
  clear e1 e2 h1 b1 g2 hH2
  go_wp2_with fail
  obtain ⟨e1, e2⟩ := add_ok (H := H2) (x := 9) (n := b) (by decide) hb1.out.1 hb1.out.2 hv2.out.2
  refine (h_add l _ 9 b _ h2).mono ?_
  rw [e1, e2]
  rintro e w3 ⟨rfl, h3, g3⟩
  have b3 := below_row b2 hll g3 b2.size
  obtain ⟨H3, hH3⟩ : ∃ H3, H3 = updZ H2 9 (some (false, b.toNat, 0)) := ⟨_, rfl⟩
  rw [← hH3] at h3
  have hv3 := Lib.hid (show H3 3 = some (false, a.toNat, 0) ∧ H3 9 = some (false, b.toNat, 0) by rw [hH3]; exact ⟨by rw [updZ_ne _ _ (by decide), hv2.out.1], updZ_same _ _ _⟩)
  clear e1 e2 h2 b2 g3 hH3
  go_wp2_with fail
  obtain ⟨t, u, H4, ht, hd, hH4, hv4⟩ : ∃ (t : Bool) (u : Nat) (H4 : Int → Option Ht), tkB H3 3 m = t ∧ decide (m ≤ a) = t ∧ tkH H3 3 m = H4 ∧ Hid (H4 3 = some (false, a.toNat, u) ∧ H4 9 = some (false, b.toNat, 0)) := by
    by_cases h : m ≤ a
    · obtain ⟨e1, e2⟩ := tk_ok (H := H3) (m := m) hv3.out.1 hm0.out (by have := ha1.out.1; omega)
      exact ⟨true, 0 + m.toNat, _, e1, decide_eq_true h, e2, Lib.hid ⟨updZ_same _ _ _, by rw [updZ_ne _ _ (by decide), hv3.out.2]⟩⟩
    · obtain ⟨e1, e2⟩ := tk_no (H := H3) (m := m) hv3.out.1 (by have := ha1.out.1; omega)
      exact ⟨false, 0, _, e1, dec_f h, e2, hv3⟩
  refine (h_take l H3 3 m _ h3).mono ?_
  rw [ht, hH4]
  rintro e w4 ⟨rfl, h4, g4⟩
  have b4 := below_row b3 hll g4 b3.size
  clear ht hH4 h3 b3 g4
  go_wp2_with fail
  refine (h_free l H4 9 _ h4).mono ?_
  rw [fr_new hv4.out.2 hb1.out.1]
  rintro e w5 ⟨rfl, q5, hw5⟩
  have h5 : Ho w5 l H4 := by rw [hw5]; exact h4.drewN _
  have b5 : Below w.heap.size w w5 := by rw [hw5]; exact below_drewN b4 _
  clear hw5 h4 b4
  go_wp2_with fail
  refine (h_fail l H4 3 _ h5).mono ?_
  rw [fa_ok hv4.out.1]
  rintro e w6 ⟨rfl, h6, g6⟩
  have b6 := below_row b5 hll g6 b5.size
  obtain ⟨H6, hH6⟩ : ∃ H6, H6 = updZ H4 3 none := ⟨_, rfl⟩
  rw [← hH6] at h6
  have hv6 := Lib.hid (show H6 3 = none ∧ H6 9 = some (false, b.toNat, 0) by rw [hH6]; exact ⟨updZ_same _ _ _, by rw [updZ_ne _ _ (by decide), hv4.out.2]⟩)
  clear h5 b5 g6 hH6
  go_wp2_with fail
  refine (h_there l H6 3 _ h6).mono ?_
  rw [hv6.out.1]
  simp only [Option.isSome]
  rintro e w' ⟨rfl, rfl⟩
  go_wp2_with fail
  refine (h_free l H6 3 _ h6).mono ?_
  rw [fr_no hv6.out.1]
  rintro e w7 ⟨rfl, q7, hw7⟩
  have h7 : Ho w7 l H6 := by rw [hw7]; exact h6.drewN _
  have b7 : Below w.heap.size w w7 := by rw [hw7]; exact below_drewN b6 _
  clear hw7 h6 b6
  go_wp2_with fail
  obtain ⟨e1, e2⟩ := tk_gone (H := H6) (x := 3) (m := 0) hv6.out.1
  refine (h_take l H6 3 0 _ h7).mono ?_
  rw [e1, e2]
  rintro e w8 ⟨rfl, h8, g8⟩
  have b8 := below_row b7 hll g8 b7.size
  clear e1 e2 h7 b7 g8
  go_wp2_with fail
  obtain ⟨e1, e2⟩ := gv_gone (H := H6) (x := 3) (m := 0) hv6.out.1
  refine (h_give l H6 3 0 _ h8).mono ?_
  rw [e1, e2]
  rintro e w9 ⟨rfl, h9, g9⟩
  have b9 := below_row b8 hll g9 b8.size
  clear e1 e2 h8 b8 g9
  go_wp2_with fail
  obtain ⟨e1, e2⟩ := add_ok (H := H6) (x := 3) (n := b) (by decide) hb1.out.1 hb1.out.2 hv6.out.1
  refine (h_add l _ 3 b _ h9).mono ?_
  rw [e1, e2]
  rintro e w10 ⟨rfl, h10, g10⟩
  have b10 := below_row b9 hll g10 b9.size
  obtain ⟨H10, hH10⟩ : ∃ H10, H10 = updZ H6 3 (some (false, b.toNat, 0)) := ⟨_, rfl⟩
  rw [← hH10] at h10
  have hv10 := Lib.hid (show H10 3 = some (false, b.toNat, 0) ∧ H10 9 = some (false, b.toNat, 0) by rw [hH10]; exact ⟨updZ_same _ _ _, by rw [updZ_ne _ _ (by decide), hv6.out.2]⟩)
  clear e1 e2 h9 b9 g10 hH10
  go_wp2_with fail
  refine (h_free l H10 3 _ h10).mono ?_
  rw [fr_new hv10.out.1 hb1.out.1]
  rintro e w11 ⟨rfl, q11, hw11⟩
  have h11 : Ho w11 l H10 := by rw [hw11]; exact h10.drewN _
  have b11 : Below w.heap.size w w11 := by rw [hw11]; exact below_drewN b10 _
  clear hw11 h10 b10
  go_wp2_with fail
  refine (h_up l H10 9 _ h11).mono ?_
  rw [up_ok hv10.out.2]
  rintro e w' ⟨rfl, rfl⟩
  go_wp2_with fail
  refine (h_free l H10 9 _ h11).mono ?_
  rw [fr_new hv10.out.2 hb1.out.1]
  rintro e w12 ⟨rfl, q12, hw12⟩
  have h12 : Ho w12 l H10 := by rw [hw12]; exact h11.drewN _
  have b12 : Below w.heap.size w w12 := by rw [hw12]; exact below_drewN b11 _
  clear hw12 h11 b11
  go_wp2_with fail
  obtain ⟨e1, e2⟩ := dr_ok (H := H10) hv10.out.1
  refine (h_drain l H10 3 _ h12).mono ?_
  rw [e1, e2]
  rintro e w13 ⟨rfl, h13, g13⟩
  have b13 := below_row b12 hll g13 b12.size
  obtain ⟨H13, hH13⟩ : ∃ H13, H13 = updZ H10 3 (lv true b.toNat 0) := ⟨_, rfl⟩
  rw [← hH13] at h13
  have hv13 := Lib.hid (show H13 3 = none by rw [hH13, updZ_same]; rfl)
  clear e1 e2 h12 b12 g13 hH13
  go_wp2_with fail
  refine (h_there l H13 3 _ h13).mono ?_
  rw [hv13.out]
  simp only [Option.isSome]
  rintro e w' ⟨rfl, rfl⟩
  go_wp2_with fail
  go_ret
  exact ⟨rfl, b13⟩

end Go.Proofs.Ythmmobhbakmbpaa.W
