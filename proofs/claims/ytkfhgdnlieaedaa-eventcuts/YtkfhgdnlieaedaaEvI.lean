/- A contract of the law's Right. -/
import Derived.Test.YtkfhgdnlieaedaaEvH
namespace Go.Proofs.Ytkfhgdnlieaedaa.W
open Go.RowKit

set_option maxRecDepth 100000 in
set_option maxHeartbeats 3200000 in
theorem lright_any (k n l s r a m c v p : Int) (w : World) (b : Bool) (hb : b = true ↔ right ⟨k, n, l, s, r, a, m, c, v, p⟩) :
    Calls Try.prog 10 #[.agg #[.int .i64 k, .int .i64 n, .int .i64 l, .int .i64 s, .int .i64 r, .int .i64 a, .int .i64 m, .int .i64 c, .int .i64 v, .int .i64 p]] w fun e w' => e = .returned (.bool b) ∧ Below w.heap.size w w' := by
  have b0 : Below w.heap.size w w := Below.refl _ _
  obtain ⟨ok, hok⟩ : ∃ ok, decide (0 ≤ k ∧ k ≤ 9) = ok := ⟨_, rfl⟩
  have HOK := Lib.hid hok.symm
  clear hok
  have HB := Lib.hid hb
  clear hb
  go_enter Try.func10, Try.ntmps10
  go_wp2_with fail
  have hbox := heap_alloc_new w (.cells #[.int .i64 k, .int .i64 n, .int .i64 l, .int .i64 s, .int .i64 r, .int .i64 a, .int .i64 m, .int .i64 c, .int .i64 v, .int .i64 p] 27)
  have b1 : Below w.heap.size w (w.alloc (.cells #[.int .i64 k, .int .i64 n, .int .i64 l, .int .i64 s, .int .i64 r, .int .i64 a, .int .i64 m, .int .i64 c, .int .i64 v, .int .i64 p] 27)) := b0.alloc (Nat.le_refl _) _
  obtain ⟨g, hg⟩ : ∃ g, w.heap.size = g := ⟨_, rfl⟩
  rw [hg] at hbox
  try rw [hg]
  generalize w.alloc (.cells #[.int .i64 k, .int .i64 n, .int .i64 l, .int .i64 s, .int .i64 r, .int .i64 a, .int .i64 m, .int .i64 c, .int .i64 v, .int .i64 p] 27) = w1 at hbox b1 ⊢
  refine (lnumbers_any k n l s r a m c v p ok w1 HOK.out).mono ?_
  rintro e w2 ⟨A, L, HL, rfl, hIL, hb2⟩
  obtain ⟨xs, hxs⟩ : ∃ xs, nums ⟨k, n, l, s, r, a, m, c, v, p⟩ = xs := ⟨_, rfl⟩
  rw [hxs] at HL hIL
  have hL6 : L ≤ 6 := by rw [HL.out, ← hxs, nums_len]; exact cnt_le _
  have hbox2 := (Only.of_below (S := fun _ => False) hb2).blk (fun q => q) hbox
  have b2 : Below w.heap.size w w2 := b1.trans (hb2.mono b1.size)
  have HXS := Lib.hid hxs
  have HIL := Lib.hid hIL
  have ten := ten_of hbox2
  have HS0 := Lib.hid (show Ten g k n l s r a m c v p w2 w2.drew from keep_ten ten (below_drewN (Below.refl _ _) 1))
  obtain ⟨t0, t1, t2, t3, t4, t5, t6, t7, t8, t9, _⟩ := ten
  clear hxs hbox hb2 b1 hIL hbox2
  cases ok with
  | false =>
    obtain rfl : b = false := by
      cases b
      · rfl
      · obtain ⟨h0, h9, _⟩ := HB.out.1 rfl
        have := HOK.out
        simp at this h0 h9
        omega
    go_wp2_with fail
    go_quiet (fail)
    have b3 : Below w.heap.size w (w2.drewN nq) := below_drewN b2 nq
    clear t0 t1 t2 t3 t4 t5 t6 t7 t8 t9 HS0 b2
    generalize w2.drewN nq = w3 at b3 ⊢
    go_wp2_with fail
    go_ret
    first | exact ⟨rfl, b3⟩ | exact ⟨rfl, by rw [← hg]; exact b3⟩
  | true =>
    have hk09 : 0 ≤ k ∧ k ≤ 9 := by simpa using HOK.out.symm
    have HK := Lib.hid hk09
    obtain ⟨⟨k1, n1, l1, s1, r1, a1, m1, c1, v1, p1⟩, hy⟩ : ∃ y, mk k (nth xs) = y := ⟨_, rfl⟩
    have hlen : xs.length = cnt k := by rw [← HXS.out, nums_len]
    have hk1 : k1 = k := by have := mk_k k (nth xs); rw [hy] at this; exact this
    subst hk1
    have hr : b = true ↔ ((∀ x ∈ xs, 0 ≤ x ∧ x ≤ 2147483647) ∧ ((⟨k1, n1, l1, s1, r1, a1, m1, c1, v1, p1⟩ : Ev) = ⟨k1, n, l, s, r, a, m, c, v, p⟩)) := by
      rw [HB.out]
      unfold right
      rw [HXS.out]
      simp only [hy]
      exact ⟨fun q => q.2.2, fun q => ⟨HK.out.1, HK.out.2, q⟩⟩
    simp only [Ev.mk.injEq] at hr
    have HY := Lib.hid hy
    have HR := Lib.hid hr
    have HLEN := Lib.hid hlen
    clear hy hr hlen HB hk09
    go_wp2_with fail
    by_cases e0 : n = n1
    · subst e0
      by_cases e1 : l = l1
      · subst e1
        by_cases e2 : s = s1
        · subst e2
          by_cases e3 : r = r1
          · subst e3
            by_cases e4 : a = a1
            · subst e4
              by_cases e5 : m = m1
              · subst e5
                by_cases e6 : c = c1
                · subst e6
                  by_cases e7 : v = v1
                  · subst e7
                    by_cases e8 : p = p1
                    · subst e8
                      have hr2 : b = true ↔ ∀ x ∈ xs, 0 ≤ x ∧ x ≤ 2147483647 := by rw [HR.out]; simp
                      have HR2 := Lib.hid hr2
                      clear hr2 HR
                      go_region_held3 (fun w' => Ten g k1 n l s r a m c v p w2 w') (first | exact HS0.out | assumption | exact keep_ten (by assumption) (by assumption))
                        (first | (go_at_call 18; refine (with_any k1 A L w1.heap.size xs _ HLEN.out HL.out (HIL.out.below (ten_below (by assumption)) (Nat.le_refl _))).mono ?_; rintro e w' ⟨rfl, hbw⟩; rw [HY.out]))
                      have b3 : Below w.heap.size w w' := b2.trans ((ten_below (by assumption)).mono b2.size)
                      have HLies := Lib.hid (HIL.out.below (ten_below (by assumption)) (Nat.le_refl _)).lies
                      clear t0 t1 t2 t3 t4 t5 t6 t7 t8 t9 HS0 hbw HY HXS HK HOK b2 HIL
                      rename_i hHeld
                      clear hHeld
                      go_wp2_with fail
                      go_loop [24] (fun vi => ∃ i : Nat, vi = .int .i64 (i : Int) ∧ i ≤ L ∧ Hid (∀ j x, j < i → xs[j]? = some x → 0 ≤ x ∧ x ≤ 2147483647)) (fun vi => L - (intOf vi).toNat)
                      case atStart => exact ⟨0, rfl, by omega, Lib.hid (fun j x q => absurd q (by omega))⟩
                      case round =>
                        obtain ⟨i, rfl, hiL, HI⟩ := hrel
                        by_cases hi : i < L
                        · obtain ⟨ad, x, rfl, hab, hx, cx⟩ := HLies.out.int (i := i) (by rw [← HL.out]; exact hi)
                          have HX := Lib.hid hx
                          clear hx
                          by_cases hbad : x < 0 ∨ 2147483647 < x
                          · obtain rfl : b = false := by
                              cases b
                              · rfl
                              · have := HR2.out.1 rfl x (List.mem_of_getElem? HX.out)
                                omega
                            go_wp2
                            all_goals first
                              | (go_ret; first | exact ⟨rfl, b3⟩ | exact ⟨rfl, by rw [← hg]; exact b3⟩)
                              | (exfalso; omega)
                          · have hx0 : decide (x < 0) = false := by simp; omega
                            have hx1 : decide (2147483647 < x) = false := by simp; omega
                            have hok : 0 ≤ x ∧ x ≤ 2147483647 := by omega
                            have HOK := Lib.hid hok
                            clear hbad hok
                            go_wp2
                            go_round
                            case rel =>
                              refine ⟨i + 1, by go_num, by omega, Lib.hid (fun j y hj hy => ?_)⟩
                              by_cases e : j = i
                              · subst e; rw [HX.out] at hy; cases hy; exact HOK.out
                              · exact HI.out j y (by omega) hy
                            case measure => simp [intOf]; omega
                        · obtain rfl : b = true := HR2.out.2 (fun x hx => by
                            obtain ⟨j, hj, e⟩ := List.getElem_of_mem hx
                            exact HI.out j x (by have := HL.out; omega) (by rw [List.getElem?_eq_getElem hj, e]))
                          clear HI
                          go_wp2_with fail
                          go_ret
                          first | exact ⟨rfl, b3⟩ | exact ⟨rfl, by rw [← hg]; exact b3⟩
                    · obtain rfl : b = false := by
                        cases b
                        · rfl
                        · have := (HR.out.1 rfl).2
                          exact absurd (show p = p1 by simp only [true_and] at this; simp_all) e8
                      have d8 : (p1 == p) = false := by simpa using fun h => e8 h.symm
                      clear e8
                      go_region_held3 (fun w' => Ten g k1 n l s r a m c v p w2 w') (first | exact HS0.out | assumption | exact keep_ten (by assumption) (by assumption))
                        (first | (go_at_call 18; refine (with_any k1 A L w1.heap.size xs _ HLEN.out HL.out (HIL.out.below (ten_below (by assumption)) (Nat.le_refl _))).mono ?_; rintro e w' ⟨rfl, hbw⟩; rw [HY.out]))
                      have b3 : Below w.heap.size w w' := b2.trans ((ten_below (by assumption)).mono b2.size)
                      clear t0 t1 t2 t3 t4 t5 t6 t7 t8 t9 HS0
                      go_wp2_with fail
                      go_ret
                      first | exact ⟨rfl, b3⟩ | exact ⟨rfl, by rw [← hg]; exact b3⟩
                  · obtain rfl : b = false := by
                      cases b
                      · rfl
                      · have := (HR.out.1 rfl).2
                        exact absurd (show v = v1 by simp only [true_and] at this; simp_all) e7
                    have d7 : (v1 == v) = false := by simpa using fun h => e7 h.symm
                    clear e7
                    go_region_held3 (fun w' => Ten g k1 n l s r a m c v p w2 w') (first | exact HS0.out | assumption | exact keep_ten (by assumption) (by assumption))
                      (first | (go_at_call 18; refine (with_any k1 A L w1.heap.size xs _ HLEN.out HL.out (HIL.out.below (ten_below (by assumption)) (Nat.le_refl _))).mono ?_; rintro e w' ⟨rfl, hbw⟩; rw [HY.out]))
                    have b3 : Below w.heap.size w w' := b2.trans ((ten_below (by assumption)).mono b2.size)
                    clear t0 t1 t2 t3 t4 t5 t6 t7 t8 t9 HS0
                    go_wp2_with fail
                    go_ret
                    first | exact ⟨rfl, b3⟩ | exact ⟨rfl, by rw [← hg]; exact b3⟩
                · obtain rfl : b = false := by
                    cases b
                    · rfl
                    · have := (HR.out.1 rfl).2
                      exact absurd (show c = c1 by simp only [true_and] at this; simp_all) e6
                  have d6 : (c1 == c) = false := by simpa using fun h => e6 h.symm
                  clear e6
                  go_region_held3 (fun w' => Ten g k1 n l s r a m c v p w2 w') (first | exact HS0.out | assumption | exact keep_ten (by assumption) (by assumption))
                    (first | (go_at_call 18; refine (with_any k1 A L w1.heap.size xs _ HLEN.out HL.out (HIL.out.below (ten_below (by assumption)) (Nat.le_refl _))).mono ?_; rintro e w' ⟨rfl, hbw⟩; rw [HY.out]))
                  have b3 : Below w.heap.size w w' := b2.trans ((ten_below (by assumption)).mono b2.size)
                  clear t0 t1 t2 t3 t4 t5 t6 t7 t8 t9 HS0
                  go_wp2_with fail
                  go_ret
                  first | exact ⟨rfl, b3⟩ | exact ⟨rfl, by rw [← hg]; exact b3⟩
              · obtain rfl : b = false := by
                  cases b
                  · rfl
                  · have := (HR.out.1 rfl).2
                    exact absurd (show m = m1 by simp only [true_and] at this; simp_all) e5
                have d5 : (m1 == m) = false := by simpa using fun h => e5 h.symm
                clear e5
                go_region_held3 (fun w' => Ten g k1 n l s r a m c v p w2 w') (first | exact HS0.out | assumption | exact keep_ten (by assumption) (by assumption))
                  (first | (go_at_call 18; refine (with_any k1 A L w1.heap.size xs _ HLEN.out HL.out (HIL.out.below (ten_below (by assumption)) (Nat.le_refl _))).mono ?_; rintro e w' ⟨rfl, hbw⟩; rw [HY.out]))
                have b3 : Below w.heap.size w w' := b2.trans ((ten_below (by assumption)).mono b2.size)
                clear t0 t1 t2 t3 t4 t5 t6 t7 t8 t9 HS0
                go_wp2_with fail
                go_ret
                first | exact ⟨rfl, b3⟩ | exact ⟨rfl, by rw [← hg]; exact b3⟩
            · obtain rfl : b = false := by
                cases b
                · rfl
                · have := (HR.out.1 rfl).2
                  exact absurd (show a = a1 by simp only [true_and] at this; simp_all) e4
              have d4 : (a1 == a) = false := by simpa using fun h => e4 h.symm
              clear e4
              go_region_held3 (fun w' => Ten g k1 n l s r a m c v p w2 w') (first | exact HS0.out | assumption | exact keep_ten (by assumption) (by assumption))
                (first | (go_at_call 18; refine (with_any k1 A L w1.heap.size xs _ HLEN.out HL.out (HIL.out.below (ten_below (by assumption)) (Nat.le_refl _))).mono ?_; rintro e w' ⟨rfl, hbw⟩; rw [HY.out]))
              have b3 : Below w.heap.size w w' := b2.trans ((ten_below (by assumption)).mono b2.size)
              clear t0 t1 t2 t3 t4 t5 t6 t7 t8 t9 HS0
              go_wp2_with fail
              go_ret
              first | exact ⟨rfl, b3⟩ | exact ⟨rfl, by rw [← hg]; exact b3⟩
          · obtain rfl : b = false := by
              cases b
              · rfl
              · have := (HR.out.1 rfl).2
                exact absurd (show r = r1 by simp only [true_and] at this; simp_all) e3
            have d3 : (r1 == r) = false := by simpa using fun h => e3 h.symm
            clear e3
            go_region_held3 (fun w' => Ten g k1 n l s r a m c v p w2 w') (first | exact HS0.out | assumption | exact keep_ten (by assumption) (by assumption))
              (first | (go_at_call 18; refine (with_any k1 A L w1.heap.size xs _ HLEN.out HL.out (HIL.out.below (ten_below (by assumption)) (Nat.le_refl _))).mono ?_; rintro e w' ⟨rfl, hbw⟩; rw [HY.out]))
            have b3 : Below w.heap.size w w' := b2.trans ((ten_below (by assumption)).mono b2.size)
            clear t0 t1 t2 t3 t4 t5 t6 t7 t8 t9 HS0
            go_wp2_with fail
            go_ret
            first | exact ⟨rfl, b3⟩ | exact ⟨rfl, by rw [← hg]; exact b3⟩
        · obtain rfl : b = false := by
            cases b
            · rfl
            · have := (HR.out.1 rfl).2
              exact absurd (show s = s1 by simp only [true_and] at this; simp_all) e2
          have d2 : (s1 == s) = false := by simpa using fun h => e2 h.symm
          clear e2
          go_region_held3 (fun w' => Ten g k1 n l s r a m c v p w2 w') (first | exact HS0.out | assumption | exact keep_ten (by assumption) (by assumption))
            (first | (go_at_call 18; refine (with_any k1 A L w1.heap.size xs _ HLEN.out HL.out (HIL.out.below (ten_below (by assumption)) (Nat.le_refl _))).mono ?_; rintro e w' ⟨rfl, hbw⟩; rw [HY.out]))
          have b3 : Below w.heap.size w w' := b2.trans ((ten_below (by assumption)).mono b2.size)
          clear t0 t1 t2 t3 t4 t5 t6 t7 t8 t9 HS0
          go_wp2_with fail
          go_ret
          first | exact ⟨rfl, b3⟩ | exact ⟨rfl, by rw [← hg]; exact b3⟩
      · obtain rfl : b = false := by
          cases b
          · rfl
          · have := (HR.out.1 rfl).2
            exact absurd (show l = l1 by simp only [true_and] at this; simp_all) e1
        have d1 : (l1 == l) = false := by simpa using fun h => e1 h.symm
        clear e1
        go_region_held3 (fun w' => Ten g k1 n l s r a m c v p w2 w') (first | exact HS0.out | assumption | exact keep_ten (by assumption) (by assumption))
          (first | (go_at_call 18; refine (with_any k1 A L w1.heap.size xs _ HLEN.out HL.out (HIL.out.below (ten_below (by assumption)) (Nat.le_refl _))).mono ?_; rintro e w' ⟨rfl, hbw⟩; rw [HY.out]))
        have b3 : Below w.heap.size w w' := b2.trans ((ten_below (by assumption)).mono b2.size)
        clear t0 t1 t2 t3 t4 t5 t6 t7 t8 t9 HS0
        go_wp2_with fail
        go_ret
        first | exact ⟨rfl, b3⟩ | exact ⟨rfl, by rw [← hg]; exact b3⟩
    · obtain rfl : b = false := by
        cases b
        · rfl
        · have := (HR.out.1 rfl).2
          exact absurd (show n = n1 by simp only [true_and] at this; simp_all) e0
      have d0 : (n1 == n) = false := by simpa using fun h => e0 h.symm
      clear e0
      go_region_held3 (fun w' => Ten g k1 n l s r a m c v p w2 w') (first | exact HS0.out | assumption | exact keep_ten (by assumption) (by assumption))
        (first | (go_at_call 18; refine (with_any k1 A L w1.heap.size xs _ HLEN.out HL.out (HIL.out.below (ten_below (by assumption)) (Nat.le_refl _))).mono ?_; rintro e w' ⟨rfl, hbw⟩; rw [HY.out]))
      have b3 : Below w.heap.size w w' := b2.trans ((ten_below (by assumption)).mono b2.size)
      clear t0 t1 t2 t3 t4 t5 t6 t7 t8 t9 HS0
      go_wp2_with fail
      go_ret
      first | exact ⟨rfl, b3⟩ | exact ⟨rfl, by rw [← hg]; exact b3⟩

end Go.Proofs.Ytkfhgdnlieaedaa.W
