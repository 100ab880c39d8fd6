/- A contract of an event's Right. -/
import Derived.Test.YtkfhgdnlieaedaaEvA
import Derived.Deep.RegionHeld3
namespace Go.Proofs.Ytkfhgdnlieaedaa.W
open Go.RowKit

/-- A block's ten cells, beside what has not turned. -/
abbrev Ten (g : Nat) (k n l s r a m c v p : Int) (w0 w : World) : Prop :=
  w.cell? ⟨g, 0, none⟩ = some (.int .i64 k) ∧ w.cell? ⟨g, 1, none⟩ = some (.int .i64 n) ∧ w.cell? ⟨g, 2, none⟩ = some (.int .i64 l) ∧ w.cell? ⟨g, 3, none⟩ = some (.int .i64 s) ∧ w.cell? ⟨g, 4, none⟩ = some (.int .i64 r) ∧
  w.cell? ⟨g, 5, none⟩ = some (.int .i64 a) ∧ w.cell? ⟨g, 6, none⟩ = some (.int .i64 m) ∧ w.cell? ⟨g, 7, none⟩ = some (.int .i64 c) ∧ w.cell? ⟨g, 8, none⟩ = some (.int .i64 v) ∧ w.cell? ⟨g, 9, none⟩ = some (.int .i64 p) ∧ Below w0.heap.size w0 w
theorem keep_ten {g : Nat} {k n l s r a m c v p : Int} {w0 w1 w2 : World} (h : Ten g k n l s r a m c v p w0 w1) (hb : Below w1.heap.size w1 w2) : Ten g k n l s r a m c v p w0 w2 := by
  obtain ⟨h0, h1, h2, h3, h4, h5, h6, h7, h8, h9, h10⟩ := h
  have hl : g < w1.heap.size := cell_lt h0
  exact ⟨by rw [hb.cell hl]; exact h0, by rw [hb.cell hl]; exact h1, by rw [hb.cell hl]; exact h2, by rw [hb.cell hl]; exact h3, by rw [hb.cell hl]; exact h4, by rw [hb.cell hl]; exact h5, by rw [hb.cell hl]; exact h6, by rw [hb.cell hl]; exact h7, by rw [hb.cell hl]; exact h8, by rw [hb.cell hl]; exact h9, h10.trans (hb.mono h10.size)⟩
theorem ten_below {g : Nat} {k n l s r a m c v p : Int} {w0 w1 : World} (h : Ten g k n l s r a m c v p w0 w1) : Below w0.heap.size w0 w1 := h.2.2.2.2.2.2.2.2.2.2
theorem ten_of {g : Nat} {k n l s r a m c v p : Int} {w : World} {t : TypeId} (h : w.heap[g]? = some (.cells #[.int .i64 k, .int .i64 n, .int .i64 l, .int .i64 s, .int .i64 r, .int .i64 a, .int .i64 m, .int .i64 c, .int .i64 v, .int .i64 p] t (0, 0))) : Ten g k n l s r a m c v p w w :=
  ⟨cell_of_row _ _ 0 _ _ _ h, cell_of_row _ _ 1 _ _ _ h, cell_of_row _ _ 2 _ _ _ h, cell_of_row _ _ 3 _ _ _ h, cell_of_row _ _ 4 _ _ _ h, cell_of_row _ _ 5 _ _ _ h, cell_of_row _ _ 6 _ _ _ h, cell_of_row _ _ 7 _ _ _ h, cell_of_row _ _ 8 _ _ _ h, cell_of_row _ _ 9 _ _ _ h, Below.refl _ _⟩

set_option maxRecDepth 100000 in
set_option maxHeartbeats 3200000 in
theorem right_any (k n l s r a m c v p : Int) (w : World) (b : Bool) (hb : b = true ↔ right ⟨k, n, l, s, r, a, m, c, v, p⟩) :
    Calls Try.prog 9 #[.agg #[.int .i64 k, .int .i64 n, .int .i64 l, .int .i64 s, .int .i64 r, .int .i64 a, .int .i64 m, .int .i64 c, .int .i64 v, .int .i64 p]] w fun e w' => e = .returned (.bool b) ∧ Below w.heap.size w w' := by
  have b0 : Below w.heap.size w w := Below.refl _ _
  by_cases hlo : k < 0
  · obtain rfl : b = false := by
      cases b
      · rfl
      · have := (hb.1 rfl).1; simp at this; omega
    clear hb
    go_enter Try.func9, Try.ntmps9
    go_wp2
    go_ret
    exact ⟨rfl, b0.alloc (Nat.le_refl _) _⟩
  · by_cases hhi : 9 < k
    · obtain rfl : b = false := by
        cases b
        · rfl
        · have := (hb.1 rfl).2.1; simp at this; omega
      clear hb
      have hlo' : decide (k < 0) = false := by simp; omega
      clear hlo
      go_enter Try.func9, Try.ntmps9
      go_wp2
      go_ret
      exact ⟨rfl, b0.alloc (Nat.le_refl _) _⟩
    · have hlo' : decide (k < 0) = false := by simp; omega
      have hhi' : decide (9 < k) = false := by simp; omega
      have HK := Lib.hid (show 0 ≤ k ∧ k ≤ 9 by omega)
      have HB := Lib.hid hb
      clear hlo hhi hb
      go_enter Try.func9, Try.ntmps9
      go_wp2_with fail
      have hbox := heap_alloc_new w (.cells #[.int .i64 k, .int .i64 n, .int .i64 l, .int .i64 s, .int .i64 r, .int .i64 a, .int .i64 m, .int .i64 c, .int .i64 v, .int .i64 p] 27)
      have b1 : Below w.heap.size w (w.alloc (.cells #[.int .i64 k, .int .i64 n, .int .i64 l, .int .i64 s, .int .i64 r, .int .i64 a, .int .i64 m, .int .i64 c, .int .i64 v, .int .i64 p] 27)) := b0.alloc (Nat.le_refl _) _
      obtain ⟨g, hg⟩ : ∃ g, w.heap.size = g := ⟨_, rfl⟩
      rw [hg] at hbox b1
      try rw [hg]
      generalize w.alloc (.cells #[.int .i64 k, .int .i64 n, .int .i64 l, .int .i64 s, .int .i64 r, .int .i64 a, .int .i64 m, .int .i64 c, .int .i64 v, .int .i64 p] 27) = w1 at hbox b1 ⊢
      refine (numbers_any k n l s r a m c v p w1).mono ?_
      rintro e w2 ⟨A, L, HL, rfl, hIL, hb2⟩
      obtain ⟨xs, hxs⟩ : ∃ xs, nums ⟨k, n, l, s, r, a, m, c, v, p⟩ = xs := ⟨_, rfl⟩
      rw [hxs] at HL hIL
      have hL6 : L ≤ 6 := by rw [HL.out, ← hxs, nums_len]; exact cnt_le _
      have hbox2 := (Only.of_below (S := fun _ => False) hb2).blk (fun q => q) hbox
      have b2 : Below g w w2 := b1.trans (hb2.mono (by have := b1.size; omega))
      have HXS := Lib.hid hxs
      have HLies := Lib.hid hIL.lies
      clear hxs hbox hb2 b1
      go_wp2_with fail
      go_loop [18] (fun vi => ∃ i : Nat, vi = .int .i64 (i : Int) ∧ i ≤ L ∧ Hid (∀ j x, j < i → xs[j]? = some x → 0 ≤ x ∧ x ≤ 2147483647)) (fun vi => L - (intOf vi).toNat)
      case atStart => exact ⟨0, rfl, by omega, Lib.hid (fun j x q => absurd q (by omega))⟩
      case round =>
        obtain ⟨i, rfl, hiL, HI⟩ := hrel
        by_cases hi : i < L
        · obtain ⟨ad, x, rfl, hab, hx, cx⟩ := HLies.out.int (i := i) (by rw [← HL.out]; exact hi)
          have HX := Lib.hid hx
          clear hx
          by_cases hbad : x < 0 ∨ 2147483647 < x
          · obtain rfl : b = false := by
              cases b
              · rfl
              · have := (HB.out.1 rfl).2.2.1 x (by rw [HXS.out]; exact List.mem_of_getElem? HX.out)
                omega
            go_wp2
            all_goals first
              | (go_ret; first | exact ⟨rfl, b2⟩ | exact ⟨rfl, by rw [hg]; exact b2⟩)
              | (exfalso; omega)
          · have hx0 : decide (x < 0) = false := by simp; omega
            have hx1 : decide (2147483647 < x) = false := by simp; omega
            have hok : 0 ≤ x ∧ x ≤ 2147483647 := by omega
            have HOK := Lib.hid hok
            clear hbad hok
            go_wp2
            go_round
            case rel =>
              refine ⟨i + 1, by go_num, by omega, Lib.hid (fun j y hj hy => ?_)⟩
              by_cases e : j = i
              · subst e; rw [HX.out] at hy; cases hy; exact HOK.out
              · exact HI.out j y (by omega) hy
            case measure => simp [intOf]; omega
        · have hall : ∀ x ∈ xs, 0 ≤ x ∧ x ≤ 2147483647 := by
            intro x hx
            obtain ⟨j, hj, e⟩ := List.getElem_of_mem hx
            exact HI.out j x (by have := HL.out; omega) (by rw [List.getElem?_eq_getElem hj, e])
          have HALL := Lib.hid hall
          clear hall HI
          obtain ⟨⟨k1, n1, l1, s1, r1, a1, m1, c1, v1, p1⟩, hy⟩ : ∃ y, mk k (nth xs) = y := ⟨_, rfl⟩
          have hlen : xs.length = cnt k := by rw [← HXS.out, nums_len]
          have hk1 : k1 = k := by have := mk_k k (nth xs); rw [hy] at this; exact this
          have hr : b = true ↔ ((⟨k1, n1, l1, s1, r1, a1, m1, c1, v1, p1⟩ : Ev) = ⟨k, n, l, s, r, a, m, c, v, p⟩) := by
            rw [HB.out]
            unfold right
            rw [HXS.out]
            simp only [hy]
            exact ⟨fun q => q.2.2.2, fun q => ⟨HK.out.1, HK.out.2, HALL.out, q⟩⟩
          simp only [Ev.mk.injEq] at hr
          subst hk1
          have HY := Lib.hid hy
          have HR := Lib.hid hr
          have HLEN := Lib.hid hlen
          have HIL := Lib.hid hIL
          have ten := ten_of hbox2
          have HS0 := Lib.hid (show Ten g k1 n l s r a m c v p w2 w2.drew from keep_ten ten (below_drewN (Below.refl _ _) 1))
          obtain ⟨t0, t1, t2, t3, t4, t5, t6, t7, t8, t9, _⟩ := ten
          clear hy hr hlen hIL hbox2 hiL HLies HB
          go_wp2_with fail
          clear hi
          by_cases e0 : n = n1
          · subst e0
            by_cases e1 : l = l1
            · subst e1
              by_cases e2 : s = s1
              · subst e2
                by_cases e3 : r = r1
                · subst e3
                  by_cases e4 : a = a1
                  · subst e4
                    by_cases e5 : m = m1
                    · subst e5
                      by_cases e6 : c = c1
                      · subst e6
                        by_cases e7 : v = v1
                        · subst e7
                          by_cases e8 : p = p1
                          · subst e8
                            obtain rfl : b = true := HR.out.2 (by simp)
                            go_region_held3 (fun w' => Ten g k1 n l s r a m c v p w2 w') (first | exact HS0.out | assumption | exact keep_ten (by assumption) (by assumption))
                              (first | (go_at_call 16; refine (made_any k1 A L w1.heap.size xs _ HLEN.out HL.out (HIL.out.below (ten_below (by assumption)) (Nat.le_refl _))).mono ?_; rintro e w' ⟨rfl, hbw⟩; rw [HY.out]))
                            have b3 : Below g w w' := b2.trans ((ten_below (by assumption)).mono (by have := b2.size; omega))
                            clear t0 t1 t2 t3 t4 t5 t6 t7 t8 t9 HS0
                            go_wp2_with fail
                            go_ret
                            first | exact ⟨rfl, b3⟩ | exact ⟨rfl, by rw [hg]; exact b3⟩
                          · obtain rfl : b = false := by
                              cases b
                              · rfl
                              · have := HR.out.1 rfl
                                exact absurd (show p = p1 by simp only [true_and] at this; simp_all) e8
                            have d8 : (p == p1) = false := by simpa using e8
                            clear e8
                            go_region_held3 (fun w' => Ten g k1 n l s r a m c v p w2 w') (first | exact HS0.out | assumption | exact keep_ten (by assumption) (by assumption))
                              (first | (go_at_call 16; refine (made_any k1 A L w1.heap.size xs _ HLEN.out HL.out (HIL.out.below (ten_below (by assumption)) (Nat.le_refl _))).mono ?_; rintro e w' ⟨rfl, hbw⟩; rw [HY.out]))
                            have b3 : Below g w w' := b2.trans ((ten_below (by assumption)).mono (by have := b2.size; omega))
                            clear t0 t1 t2 t3 t4 t5 t6 t7 t8 t9 HS0
                            go_wp2_with fail
                            go_ret
                            first | exact ⟨rfl, b3⟩ | exact ⟨rfl, by rw [hg]; exact b3⟩
                        · obtain rfl : b = false := by
                            cases b
                            · rfl
                            · have := HR.out.1 rfl
                              exact absurd (show v = v1 by simp only [true_and] at this; simp_all) e7
                          have d7 : (v == v1) = false := by simpa using e7
                          clear e7
                          go_region_held3 (fun w' => Ten g k1 n l s r a m c v p w2 w') (first | exact HS0.out | assumption | exact keep_ten (by assumption) (by assumption))
                            (first | (go_at_call 16; refine (made_any k1 A L w1.heap.size xs _ HLEN.out HL.out (HIL.out.below (ten_below (by assumption)) (Nat.le_refl _))).mono ?_; rintro e w' ⟨rfl, hbw⟩; rw [HY.out]))
                          have b3 : Below g w w' := b2.trans ((ten_below (by assumption)).mono (by have := b2.size; omega))
                          clear t0 t1 t2 t3 t4 t5 t6 t7 t8 t9 HS0
                          go_wp2_with fail
                          go_ret
                          first | exact ⟨rfl, b3⟩ | exact ⟨rfl, by rw [hg]; exact b3⟩
                      · obtain rfl : b = false := by
                          cases b
                          · rfl
                          · have := HR.out.1 rfl
                            exact absurd (show c = c1 by simp only [true_and] at this; simp_all) e6
                        have d6 : (c == c1) = false := by simpa using e6
                        clear e6
                        go_region_held3 (fun w' => Ten g k1 n l s r a m c v p w2 w') (first | exact HS0.out | assumption | exact keep_ten (by assumption) (by assumption))
                          (first | (go_at_call 16; refine (made_any k1 A L w1.heap.size xs _ HLEN.out HL.out (HIL.out.below (ten_below (by assumption)) (Nat.le_refl _))).mono ?_; rintro e w' ⟨rfl, hbw⟩; rw [HY.out]))
                        have b3 : Below g w w' := b2.trans ((ten_below (by assumption)).mono (by have := b2.size; omega))
                        clear t0 t1 t2 t3 t4 t5 t6 t7 t8 t9 HS0
                        go_wp2_with fail
                        go_ret
                        first | exact ⟨rfl, b3⟩ | exact ⟨rfl, by rw [hg]; exact b3⟩
                    · obtain rfl : b = false := by
                        cases b
                        · rfl
                        · have := HR.out.1 rfl
                          exact absurd (show m = m1 by simp only [true_and] at this; simp_all) e5
                      have d5 : (m == m1) = false := by simpa using e5
                      clear e5
                      go_region_held3 (fun w' => Ten g k1 n l s r a m c v p w2 w') (first | exact HS0.out | assumption | exact keep_ten (by assumption) (by assumption))
                        (first | (go_at_call 16; refine (made_any k1 A L w1.heap.size xs _ HLEN.out HL.out (HIL.out.below (ten_below (by assumption)) (Nat.le_refl _))).mono ?_; rintro e w' ⟨rfl, hbw⟩; rw [HY.out]))
                      have b3 : Below g w w' := b2.trans ((ten_below (by assumption)).mono (by have := b2.size; omega))
                      clear t0 t1 t2 t3 t4 t5 t6 t7 t8 t9 HS0
                      go_wp2_with fail
                      go_ret
                      first | exact ⟨rfl, b3⟩ | exact ⟨rfl, by rw [hg]; exact b3⟩
                  · obtain rfl : b = false := by
                      cases b
                      · rfl
                      · have := HR.out.1 rfl
                        exact absurd (show a = a1 by simp only [true_and] at this; simp_all) e4
                    have d4 : (a == a1) = false := by simpa using e4
                    clear e4
                    go_region_held3 (fun w' => Ten g k1 n l s r a m c v p w2 w') (first | exact HS0.out | assumption | exact keep_ten (by assumption) (by assumption))
                      (first | (go_at_call 16; refine (made_any k1 A L w1.heap.size xs _ HLEN.out HL.out (HIL.out.below (ten_below (by assumption)) (Nat.le_refl _))).mono ?_; rintro e w' ⟨rfl, hbw⟩; rw [HY.out]))
                    have b3 : Below g w w' := b2.trans ((ten_below (by assumption)).mono (by have := b2.size; omega))
                    clear t0 t1 t2 t3 t4 t5 t6 t7 t8 t9 HS0
                    go_wp2_with fail
                    go_ret
                    first | exact ⟨rfl, b3⟩ | exact ⟨rfl, by rw [hg]; exact b3⟩
                · obtain rfl : b = false := by
                    cases b
                    · rfl
                    · have := HR.out.1 rfl
                      exact absurd (show r = r1 by simp only [true_and] at this; simp_all) e3
                  have d3 : (r == r1) = false := by simpa using e3
                  clear e3
                  go_region_held3 (fun w' => Ten g k1 n l s r a m c v p w2 w') (first | exact HS0.out | assumption | exact keep_ten (by assumption) (by assumption))
                    (first | (go_at_call 16; refine (made_any k1 A L w1.heap.size xs _ HLEN.out HL.out (HIL.out.below (ten_below (by assumption)) (Nat.le_refl _))).mono ?_; rintro e w' ⟨rfl, hbw⟩; rw [HY.out]))
                  have b3 : Below g w w' := b2.trans ((ten_below (by assumption)).mono (by have := b2.size; omega))
                  clear t0 t1 t2 t3 t4 t5 t6 t7 t8 t9 HS0
                  go_wp2_with fail
                  go_ret
                  first | exact ⟨rfl, b3⟩ | exact ⟨rfl, by rw [hg]; exact b3⟩
              · obtain rfl : b = false := by
                  cases b
                  · rfl
                  · have := HR.out.1 rfl
                    exact absurd (show s = s1 by simp only [true_and] at this; simp_all) e2
                have d2 : (s == s1) = false := by simpa using e2
                clear e2
                go_region_held3 (fun w' => Ten g k1 n l s r a m c v p w2 w') (first | exact HS0.out | assumption | exact keep_ten (by assumption) (by assumption))
                  (first | (go_at_call 16; refine (made_any k1 A L w1.heap.size xs _ HLEN.out HL.out (HIL.out.below (ten_below (by assumption)) (Nat.le_refl _))).mono ?_; rintro e w' ⟨rfl, hbw⟩; rw [HY.out]))
                have b3 : Below g w w' := b2.trans ((ten_below (by assumption)).mono (by have := b2.size; omega))
                clear t0 t1 t2 t3 t4 t5 t6 t7 t8 t9 HS0
                go_wp2_with fail
                go_ret
                first | exact ⟨rfl, b3⟩ | exact ⟨rfl, by rw [hg]; exact b3⟩
            · obtain rfl : b = false := by
                cases b
                · rfl
                · have := HR.out.1 rfl
                  exact absurd (show l = l1 by simp only [true_and] at this; simp_all) e1
              have d1 : (l == l1) = false := by simpa using e1
              clear e1
              go_region_held3 (fun w' => Ten g k1 n l s r a m c v p w2 w') (first | exact HS0.out | assumption | exact keep_ten (by assumption) (by assumption))
                (first | (go_at_call 16; refine (made_any k1 A L w1.heap.size xs _ HLEN.out HL.out (HIL.out.below (ten_below (by assumption)) (Nat.le_refl _))).mono ?_; rintro e w' ⟨rfl, hbw⟩; rw [HY.out]))
              have b3 : Below g w w' := b2.trans ((ten_below (by assumption)).mono (by have := b2.size; omega))
              clear t0 t1 t2 t3 t4 t5 t6 t7 t8 t9 HS0
              go_wp2_with fail
              go_ret
              first | exact ⟨rfl, b3⟩ | exact ⟨rfl, by rw [hg]; exact b3⟩
          · obtain rfl : b = false := by
              cases b
              · rfl
              · have := HR.out.1 rfl
                exact absurd (show n = n1 by simp only [true_and] at this; simp_all) e0
            have d0 : (n == n1) = false := by simpa using e0
            clear e0
            go_region_held3 (fun w' => Ten g k1 n l s r a m c v p w2 w') (first | exact HS0.out | assumption | exact keep_ten (by assumption) (by assumption))
              (first | (go_at_call 16; refine (made_any k1 A L w1.heap.size xs _ HLEN.out HL.out (HIL.out.below (ten_below (by assumption)) (Nat.le_refl _))).mono ?_; rintro e w' ⟨rfl, hbw⟩; rw [HY.out]))
            have b3 : Below g w w' := b2.trans ((ten_below (by assumption)).mono (by have := b2.size; omega))
            clear t0 t1 t2 t3 t4 t5 t6 t7 t8 t9 HS0
            go_wp2_with fail
            go_ret
            first | exact ⟨rfl, b3⟩ | exact ⟨rfl, by rw [hg]; exact b3⟩

end Go.Proofs.Ytkfhgdnlieaedaa.W
