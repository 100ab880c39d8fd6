/- A walk of ReplyApart. Made by mk_rej.py. -/
import Derived.Test.YtkfhgdnlieaedaaDoorReE
import Derived.Test.YtkfhgdnlieaedaaDoorReF
import Derived.Test.YtkfhgdnlieaedaaDoorReH
import Derived.Test.YtkfhgdnlieaedaaDoorReL
import Derived.BigQuiet
import Derived.Lib.QuietBelow
namespace Go.Proofs.YtkfhgdnlieaedaaDoor.W
open Go.RowKit Go.Sort

set_option maxRecDepth 100000 in
set_option maxHeartbeats 1600000 in
theorem apart_no1 (k b y e k' b' y' e' : Int) (w : World) (hG : Gl w) (s : List UInt8) (HR : Hid (∀ w, Gl w → Calls Tryd.prog 10 #[.agg #[.int .i64 k, .int .i64 b, .int .i64 y, .int .i64 e]] w fun x w' => x = .returned (.bool false) ∧ Below w.heap.size w w')) (HS : Hid (∀ w, Gl w → Calls Tryd.prog 9 #[.agg #[.int .i64 k, .int .i64 b, .int .i64 y, .int .i64 e]] w fun x w' => x = .returned (sv s) ∧ Below w.heap.size w w')) (hE : ((bst s).toList == []) = true) :
    Calls Tryd.prog 6 #[.agg #[.int .i64 k, .int .i64 b, .int .i64 y, .int .i64 e], .agg #[.int .i64 k', .int .i64 b', .int .i64 y', .int .i64 e']] w fun x w' => x = .returned (.bool true) ∧ Below w.heap.size w w' := by
  have c1 : Below w.heap.size w ((w.alloc (.cells #[.int .i64 k, .int .i64 b, .int .i64 y, .int .i64 e] 26)).alloc (.cells #[.int .i64 k', .int .i64 b', .int .i64 y', .int .i64 e'] 26)) := ((Below.refl _ _).alloc (Nat.le_refl _) _).alloc (((Below.refl _ _).alloc (Nat.le_refl _) _ : Below w.heap.size w (w.alloc (.cells #[.int .i64 k, .int .i64 b, .int .i64 y, .int .i64 e] 26))).size) _
  have N1 : ((w.alloc (.cells #[.int .i64 k, .int .i64 b, .int .i64 y, .int .i64 e] 26)).alloc (.cells #[.int .i64 k', .int .i64 b', .int .i64 y', .int .i64 e'] 26)).heap[w.heap.size]? = some (.cells #[.int .i64 k, .int .i64 b, .int .i64 y, .int .i64 e] 26 (0, 0)) := by
    exact blk_stays ((Below.refl _ _).alloc (Nat.le_refl _) _) (heap_alloc_new w (.cells #[.int .i64 k, .int .i64 b, .int .i64 y, .int .i64 e] 26))
  have M1 := heap_alloc2_new w (.cells #[.int .i64 k, .int .i64 b, .int .i64 y, .int .i64 e] 26) (.cells #[.int .i64 k', .int .i64 b', .int .i64 y', .int .i64 e'] 26)
  have G1 := hG.below c1
  go_enter Tryd.func6, Tryd.ntmps6
  go_wp2_with fail
  generalize (w.alloc (.cells #[.int .i64 k, .int .i64 b, .int .i64 y, .int .i64 e] 26)).alloc (.cells #[.int .i64 k', .int .i64 b', .int .i64 y', .int .i64 e'] 26) = w1 at c1 N1 M1 G1 ⊢
  refine (head_any w1 G1).mono ?_
  rintro x w2 ⟨rfl, b2⟩
  have c2 : Below w.heap.size w w2 := c1.trans (b2.mono c1.size)
  have G2 := G1.below b2
  have N2 := blk_stays b2 N1
  have M2 := blk_stays b2 M1
  obtain ⟨p0, p1, p2, p3⟩ := an_cells N2
  go_wp2_with fail
  refine (HR.out w2 G2).mono ?_
  rintro x w3 ⟨rfl, b3⟩
  have c3 : Below w.heap.size w w3 := c2.trans (b3.mono c2.size)
  have G3 := G2.below b3
  have N3 := blk_stays b3 N2
  have M3 := blk_stays b3 M2
  clear p0 p1 p2 p3
  obtain ⟨q0, q1, q2, q3⟩ := an_cells N3
  go_wp2_with fail
  refine (HR.out w3 G3).mono ?_
  rintro x w4 ⟨rfl, b4⟩
  have c4 : Below w.heap.size w w4 := c3.trans (b4.mono c3.size)
  have G4 := G3.below b4
  have N4 := blk_stays b4 N3
  have M4 := blk_stays b4 M3
  clear q0 q1 q2 q3
  obtain ⟨p0, p1, p2, p3⟩ := an_cells N4
  go_wp2_with fail
  refine (HR.out w4 G4).mono ?_
  rintro x w5 ⟨rfl, b5⟩
  have c5 : Below w.heap.size w w5 := c4.trans (b5.mono c4.size)
  have G5 := G4.below b5
  have N5 := blk_stays b5 N4
  have M5 := blk_stays b5 M4
  clear p0 p1 p2 p3
  obtain ⟨q0, q1, q2, q3⟩ := an_cells N5
  go_wp2_with fail
  refine (HS.out w5 G5).mono ?_
  rintro x w6 ⟨rfl, b6⟩
  have c6 : Below w.heap.size w w6 := c5.trans (b6.mono c5.size)
  have G6 := G5.below b6
  have N6 := blk_stays b6 N5
  have M6 := blk_stays b6 M5
  clear q0 q1 q2 q3
  obtain ⟨p0, p1, p2, p3⟩ := an_cells N6
  go_wp2_with fail
  go_ret
  exact ⟨rfl, c6⟩
set_option maxRecDepth 100000 in
set_option maxHeartbeats 1600000 in
theorem apart_no2 (k b y e k' b' y' e' : Int) (w : World) (hG : Gl w) (s : List UInt8) (HR : Hid (∀ w, Gl w → Calls Tryd.prog 10 #[.agg #[.int .i64 k, .int .i64 b, .int .i64 y, .int .i64 e]] w fun x w' => x = .returned (.bool true) ∧ Below w.heap.size w w')) (HR' : Hid (∀ w, Gl w → Calls Tryd.prog 10 #[.agg #[.int .i64 k', .int .i64 b', .int .i64 y', .int .i64 e']] w fun x w' => x = .returned (.bool false) ∧ Below w.heap.size w w')) (HS : Hid (∀ w, Gl w → Calls Tryd.prog 9 #[.agg #[.int .i64 k, .int .i64 b, .int .i64 y, .int .i64 e]] w fun x w' => x = .returned (sv s) ∧ Below w.heap.size w w')) (hE : ((bst s).toList == []) = false) :
    Calls Tryd.prog 6 #[.agg #[.int .i64 k, .int .i64 b, .int .i64 y, .int .i64 e], .agg #[.int .i64 k', .int .i64 b', .int .i64 y', .int .i64 e']] w fun x w' => x = .returned (.bool true) ∧ Below w.heap.size w w' := by
  have c1 : Below w.heap.size w ((w.alloc (.cells #[.int .i64 k, .int .i64 b, .int .i64 y, .int .i64 e] 26)).alloc (.cells #[.int .i64 k', .int .i64 b', .int .i64 y', .int .i64 e'] 26)) := ((Below.refl _ _).alloc (Nat.le_refl _) _).alloc (((Below.refl _ _).alloc (Nat.le_refl _) _ : Below w.heap.size w (w.alloc (.cells #[.int .i64 k, .int .i64 b, .int .i64 y, .int .i64 e] 26))).size) _
  have N1 : ((w.alloc (.cells #[.int .i64 k, .int .i64 b, .int .i64 y, .int .i64 e] 26)).alloc (.cells #[.int .i64 k', .int .i64 b', .int .i64 y', .int .i64 e'] 26)).heap[w.heap.size]? = some (.cells #[.int .i64 k, .int .i64 b, .int .i64 y, .int .i64 e] 26 (0, 0)) := by
    exact blk_stays ((Below.refl _ _).alloc (Nat.le_refl _) _) (heap_alloc_new w (.cells #[.int .i64 k, .int .i64 b, .int .i64 y, .int .i64 e] 26))
  have M1 := heap_alloc2_new w (.cells #[.int .i64 k, .int .i64 b, .int .i64 y, .int .i64 e] 26) (.cells #[.int .i64 k', .int .i64 b', .int .i64 y', .int .i64 e'] 26)
  have G1 := hG.below c1
  go_enter Tryd.func6, Tryd.ntmps6
  go_wp2_with fail
  generalize (w.alloc (.cells #[.int .i64 k, .int .i64 b, .int .i64 y, .int .i64 e] 26)).alloc (.cells #[.int .i64 k', .int .i64 b', .int .i64 y', .int .i64 e'] 26) = w1 at c1 N1 M1 G1 ⊢
  refine (head_any w1 G1).mono ?_
  rintro x w2 ⟨rfl, b2⟩
  have c2 : Below w.heap.size w w2 := c1.trans (b2.mono c1.size)
  have G2 := G1.below b2
  have N2 := blk_stays b2 N1
  have M2 := blk_stays b2 M1
  obtain ⟨p0, p1, p2, p3⟩ := an_cells N2
  go_wp2_with fail
  refine (HR.out w2 G2).mono ?_
  rintro x w3 ⟨rfl, b3⟩
  have c3 : Below w.heap.size w w3 := c2.trans (b3.mono c2.size)
  have G3 := G2.below b3
  have N3 := blk_stays b3 N2
  have M3 := blk_stays b3 M2
  clear p0 p1 p2 p3
  obtain ⟨q0, q1, q2, q3⟩ := an_cells M3
  go_wp2_with fail
  refine (HR'.out w3 G3).mono ?_
  rintro x w4 ⟨rfl, b4⟩
  have c4 : Below w.heap.size w w4 := c3.trans (b4.mono c3.size)
  have G4 := G3.below b4
  have N4 := blk_stays b4 N3
  have M4 := blk_stays b4 M3
  clear q0 q1 q2 q3
  obtain ⟨p0, p1, p2, p3⟩ := an_cells N4
  go_wp2_with fail
  refine (HR.out w4 G4).mono ?_
  rintro x w5 ⟨rfl, b5⟩
  have c5 : Below w.heap.size w w5 := c4.trans (b5.mono c4.size)
  have G5 := G4.below b5
  have N5 := blk_stays b5 N4
  have M5 := blk_stays b5 M4
  clear p0 p1 p2 p3
  obtain ⟨q0, q1, q2, q3⟩ := an_cells N5
  go_wp2_with fail
  refine (HS.out w5 G5).mono ?_
  rintro x w6 ⟨rfl, b6⟩
  have c6 : Below w.heap.size w w6 := c5.trans (b6.mono c5.size)
  have G6 := G5.below b6
  have N6 := blk_stays b6 N5
  have M6 := blk_stays b6 M5
  clear q0 q1 q2 q3
  obtain ⟨p0, p1, p2, p3⟩ := an_cells N6
  go_wp2_with fail
  go_ret
  exact ⟨rfl, c6⟩
set_option maxRecDepth 100000 in
set_option maxHeartbeats 1600000 in
theorem apart_both (k b y e k' b' y' e' : Int) (w : World) (hG : Gl w) (s s' : List UInt8) (HR : Hid (∀ w, Gl w → Calls Tryd.prog 10 #[.agg #[.int .i64 k, .int .i64 b, .int .i64 y, .int .i64 e]] w fun x w' => x = .returned (.bool true) ∧ Below w.heap.size w w')) (HR' : Hid (∀ w, Gl w → Calls Tryd.prog 10 #[.agg #[.int .i64 k', .int .i64 b', .int .i64 y', .int .i64 e']] w fun x w' => x = .returned (.bool true) ∧ Below w.heap.size w w')) (HS : Hid (∀ w, Gl w → Calls Tryd.prog 9 #[.agg #[.int .i64 k, .int .i64 b, .int .i64 y, .int .i64 e]] w fun x w' => x = .returned (sv s) ∧ Below w.heap.size w w')) (HS' : Hid (∀ w, Gl w → Calls Tryd.prog 9 #[.agg #[.int .i64 k', .int .i64 b', .int .i64 y', .int .i64 e']] w fun x w' => x = .returned (sv s') ∧ Below w.heap.size w w')) (HEQ : Hid (s = s' ↔ k = k' ∧ b = b' ∧ y = y' ∧ e = e')) :
    Calls Tryd.prog 6 #[.agg #[.int .i64 k, .int .i64 b, .int .i64 y, .int .i64 e], .agg #[.int .i64 k', .int .i64 b', .int .i64 y', .int .i64 e']] w fun x w' => x = .returned (.bool true) ∧ Below w.heap.size w w' := by
  have c1 : Below w.heap.size w ((w.alloc (.cells #[.int .i64 k, .int .i64 b, .int .i64 y, .int .i64 e] 26)).alloc (.cells #[.int .i64 k', .int .i64 b', .int .i64 y', .int .i64 e'] 26)) := ((Below.refl _ _).alloc (Nat.le_refl _) _).alloc (((Below.refl _ _).alloc (Nat.le_refl _) _ : Below w.heap.size w (w.alloc (.cells #[.int .i64 k, .int .i64 b, .int .i64 y, .int .i64 e] 26))).size) _
  have N1 : ((w.alloc (.cells #[.int .i64 k, .int .i64 b, .int .i64 y, .int .i64 e] 26)).alloc (.cells #[.int .i64 k', .int .i64 b', .int .i64 y', .int .i64 e'] 26)).heap[w.heap.size]? = some (.cells #[.int .i64 k, .int .i64 b, .int .i64 y, .int .i64 e] 26 (0, 0)) := by
    exact blk_stays ((Below.refl _ _).alloc (Nat.le_refl _) _) (heap_alloc_new w (.cells #[.int .i64 k, .int .i64 b, .int .i64 y, .int .i64 e] 26))
  have M1 := heap_alloc2_new w (.cells #[.int .i64 k, .int .i64 b, .int .i64 y, .int .i64 e] 26) (.cells #[.int .i64 k', .int .i64 b', .int .i64 y', .int .i64 e'] 26)
  have G1 := hG.below c1
  go_enter Tryd.func6, Tryd.ntmps6
  go_wp2_with fail
  generalize (w.alloc (.cells #[.int .i64 k, .int .i64 b, .int .i64 y, .int .i64 e] 26)).alloc (.cells #[.int .i64 k', .int .i64 b', .int .i64 y', .int .i64 e'] 26) = w1 at c1 N1 M1 G1 ⊢
  refine (head_any w1 G1).mono ?_
  rintro x w2 ⟨rfl, b2⟩
  have c2 : Below w.heap.size w w2 := c1.trans (b2.mono c1.size)
  have G2 := G1.below b2
  have N2 := blk_stays b2 N1
  have M2 := blk_stays b2 M1
  obtain ⟨p0, p1, p2, p3⟩ := an_cells N2
  go_wp2_with fail
  refine (HR.out w2 G2).mono ?_
  rintro x w3 ⟨rfl, b3⟩
  have c3 : Below w.heap.size w w3 := c2.trans (b3.mono c2.size)
  have G3 := G2.below b3
  have N3 := blk_stays b3 N2
  have M3 := blk_stays b3 M2
  clear p0 p1 p2 p3
  obtain ⟨q0, q1, q2, q3⟩ := an_cells M3
  go_wp2_with fail
  refine (HR'.out w3 G3).mono ?_
  rintro x w4 ⟨rfl, b4⟩
  have c4 : Below w.heap.size w w4 := c3.trans (b4.mono c3.size)
  have G4 := G3.below b4
  have N4 := blk_stays b4 N3
  have M4 := blk_stays b4 M3
  clear q0 q1 q2 q3
  obtain ⟨t0, t1, t2, t3⟩ := an_cells N4
  obtain ⟨t4, t5, t6, t7⟩ := an_cells M4
  have r0 := cell_regrown t0
  have r1 := cell_regrown t1
  have r2 := cell_regrown t2
  have r3 := cell_regrown t3
  have r4 := cell_regrown t4
  have r5 := cell_regrown t5
  have r6 := cell_regrown t6
  have r7 := cell_regrown t7
  have hA : ∀ d os, Calls Tryd.prog 9 #[.agg #[.int .i64 k, .int .i64 b, .int .i64 y, .int .i64 e]] (grow (redrawn w4 d) os) fun x w'' => x = .returned (sv s) ∧ ∃ p : Regrown, w'' = grow (redrawn w4 p.d) p.os := fun d os => Calls.regrown_of (HS.out _ (G4.below (below_regrown w4 d os)))
  have hB : ∀ d os, Calls Tryd.prog 9 #[.agg #[.int .i64 k', .int .i64 b', .int .i64 y', .int .i64 e']] (grow (redrawn w4 d) os) fun x w'' => x = .returned (sv s') ∧ ∃ p : Regrown, w'' = grow (redrawn w4 p.d) p.os := fun d os => Calls.regrown_of (HS'.out _ (G4.below (below_regrown w4 d os)))
  have HA := Lib.hid hA
  have HB := Lib.hid hB
  clear N2 M2 N3 M3 N4 M4 N1 M1 hA hB
  go_wp2_with fail
  by_cases e0 : k = k'
  · subst e0
    by_cases e1 : b = b'
    · subst e1
      by_cases e2 : y = y'
      · subst e2
        by_cases e3 : e = e'
        · subst e3
          have hd : ((bst s).toList == (bst s').toList) = true := by rw [sv_eq]; exact decide_eq_true (HEQ.out.2 ⟨rfl, rfl, rfl, rfl⟩)
          refine wp_region_quiet_below (by kernel_rfl) (by kernel_rfl) ?_
          repeat (go_big_quiet_step (first | with_reducible exact HA.out _ _ | with_reducible exact HB.out _ _))
          refine wpQuiet_nil ?_
          intro _ hw'
          obtain ⟨⟨dq, osq⟩, hw''⟩ := hw'
          subst hw''
          have b5 : Below w.heap.size w (grow (redrawn w4 dq) osq) := c4.trans ((below_regrown w4 dq osq).mono c4.size)
          clear t0 t1 t2 t3 t4 t5 t6 t7 r0 r1 r2 r3 r4 r5 r6 r7
          go_wp2_with fail
          go_ret
          exact ⟨rfl, b5⟩
        · have d3 : (e == e') = false := by simpa using e3
          have hd : ((bst s).toList == (bst s').toList) = false := by rw [sv_eq]; exact decide_eq_false (fun q => absurd (HEQ.out.1 q).2.2.2 e3)
          refine wp_region_quiet_below (by kernel_rfl) (by kernel_rfl) ?_
          repeat (go_big_quiet_step (first | with_reducible exact HA.out _ _ | with_reducible exact HB.out _ _))
          refine wpQuiet_nil ?_
          intro _ hw'
          obtain ⟨⟨dq, osq⟩, hw''⟩ := hw'
          subst hw''
          have b5 : Below w.heap.size w (grow (redrawn w4 dq) osq) := c4.trans ((below_regrown w4 dq osq).mono c4.size)
          clear t0 t1 t2 t3 t4 t5 t6 t7 r0 r1 r2 r3 r4 r5 r6 r7
          go_wp2_with fail
          go_ret
          exact ⟨rfl, b5⟩
      · have d2 : (y == y') = false := by simpa using e2
        have hd : ((bst s).toList == (bst s').toList) = false := by rw [sv_eq]; exact decide_eq_false (fun q => absurd (HEQ.out.1 q).2.2.1 e2)
        refine wp_region_quiet_below (by kernel_rfl) (by kernel_rfl) ?_
        repeat (go_big_quiet_step (first | with_reducible exact HA.out _ _ | with_reducible exact HB.out _ _))
        refine wpQuiet_nil ?_
        intro _ hw'
        obtain ⟨⟨dq, osq⟩, hw''⟩ := hw'
        subst hw''
        have b5 : Below w.heap.size w (grow (redrawn w4 dq) osq) := c4.trans ((below_regrown w4 dq osq).mono c4.size)
        clear t0 t1 t2 t3 t4 t5 t6 t7 r0 r1 r2 r3 r4 r5 r6 r7
        go_wp2_with fail
        go_ret
        exact ⟨rfl, b5⟩
    · have d1 : (b == b') = false := by simpa using e1
      have hd : ((bst s).toList == (bst s').toList) = false := by rw [sv_eq]; exact decide_eq_false (fun q => absurd (HEQ.out.1 q).2.1 e1)
      refine wp_region_quiet_below (by kernel_rfl) (by kernel_rfl) ?_
      repeat (go_big_quiet_step (first | with_reducible exact HA.out _ _ | with_reducible exact HB.out _ _))
      refine wpQuiet_nil ?_
      intro _ hw'
      obtain ⟨⟨dq, osq⟩, hw''⟩ := hw'
      subst hw''
      have b5 : Below w.heap.size w (grow (redrawn w4 dq) osq) := c4.trans ((below_regrown w4 dq osq).mono c4.size)
      clear t0 t1 t2 t3 t4 t5 t6 t7 r0 r1 r2 r3 r4 r5 r6 r7
      go_wp2_with fail
      go_ret
      exact ⟨rfl, b5⟩
  · have d0 : (k == k') = false := by simpa using e0
    have hd : ((bst s).toList == (bst s').toList) = false := by rw [sv_eq]; exact decide_eq_false (fun q => absurd (HEQ.out.1 q).1 e0)
    refine wp_region_quiet_below (by kernel_rfl) (by kernel_rfl) ?_
    repeat (go_big_quiet_step (first | with_reducible exact HA.out _ _ | with_reducible exact HB.out _ _))
    refine wpQuiet_nil ?_
    intro _ hw'
    obtain ⟨⟨dq, osq⟩, hw''⟩ := hw'
    subst hw''
    have b5 : Below w.heap.size w (grow (redrawn w4 dq) osq) := c4.trans ((below_regrown w4 dq osq).mono c4.size)
    clear t0 t1 t2 t3 t4 t5 t6 t7 r0 r1 r2 r3 r4 r5 r6 r7
    go_wp2_with fail
    go_ret
    exact ⟨rfl, b5⟩

theorem apart_walk (k b y e k' b' y' e' : Int) (w : World) (hG : Gl w) : Calls Tryd.prog 6 #[.agg #[.int .i64 k, .int .i64 b, .int .i64 y, .int .i64 e], .agg #[.int .i64 k', .int .i64 b', .int .i64 y', .int .i64 e']] w fun x w' => x = .returned (.bool true) ∧ Below w.heap.size w w' := by
  by_cases h : okA ⟨k, b, y, e⟩
  · by_cases h' : okA ⟨k', b', y', e'⟩
    · refine apart_both k b y e k' b' y' e' w hG _ _ (Lib.hid fun w _ => right_ok k b y e w h) (Lib.hid fun w _ => right_ok k' b' y' e' w h') (Lib.hid fun w hw => string_ok k b y e w hw h) (Lib.hid fun w hw => string_ok k' b' y' e' w hw h') (Lib.hid ⟨fun q => ?_, fun ⟨q1, q2, q3, q4⟩ => by rw [q1, q2, q3, q4]⟩)
      have := txt_inj h h' q
      injection this with q1 q2 q3 q4
      exact ⟨q1, q2, q3, q4⟩
    · exact apart_no2 k b y e k' b' y' e' w hG _ (Lib.hid fun w _ => right_ok k b y e w h) (Lib.hid fun w _ => right_no k' b' y' e' w h') (Lib.hid fun w hw => string_ok k b y e w hw h) (by rw [sv_lit]; simpa using txt_ne _)
  · exact apart_no1 k b y e k' b' y' e' w hG [] (Lib.hid fun w _ => right_no k b y e w h) (Lib.hid fun w hw => str_no k b y e w hw h) (by rw [sv_lit]; rfl)

end Go.Proofs.YtkfhgdnlieaedaaDoor.W
