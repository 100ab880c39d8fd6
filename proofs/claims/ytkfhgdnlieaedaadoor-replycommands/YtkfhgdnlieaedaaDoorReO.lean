/- A walk of ReplyCommands. Made by mk_reo.py. -/
import Derived.Test.YtkfhgdnlieaedaaDoorReN
import Derived.Test.YtkfhgdnlieaedaaDoorReH
import Derived.BigQuiet
import Derived.Lib.QuietBelow
namespace Go.Proofs.YtkfhgdnlieaedaaDoor.W
open Go.RowKit Go.Sort

theorem cw_inj {p p' : Bool} {a b c a' b' c' : Int} (h : cw p a b c = cw p' a' b' c') : p = p' ∧ a = a' ∧ b = b' ∧ c = c' := by
  have hw : ∀ p : Bool, ∀ x ∈ (if p then bootW else killW), x ≠ 32 := by intro p; cases p <;> decide
  unfold cw at h
  obtain ⟨h1, h2⟩ := word_inj (hw p) (hw p') h
  obtain ⟨h3, h4⟩ := word_inj (itoa_byte a) (itoa_byte a') h2
  obtain ⟨h5, h6⟩ := word_inj (itoa_byte b) (itoa_byte b') h4
  refine ⟨?_, itoa_inj h3, itoa_inj h5, itoa_inj h6⟩
  cases p <;> cases p' <;> simp [bootW, killW] at h1 ⊢
theorem cat_true (la lb lc : List UInt8) : (({ data := #[98, 111, 111, 116, 32] } : ByteArray) ++ bst la ++ { data := #[32] } ++ bst lb ++ { data := #[32] } ++ bst lc) = bst (bootW ++ 32 :: (la ++ 32 :: (lb ++ 32 :: lc))) := by
  rw [show ({ data := #[98, 111, 111, 116, 32] } : ByteArray) = bst [98, 111, 111, 116, 32] from rfl, show ({ data := #[32] } : ByteArray) = bst [32] from rfl, bst_app, bst_app, bst_app, bst_app, bst_app]
  congr 1
  simp [bootW]
theorem cat_false (la lb lc : List UInt8) : (({ data := #[107, 105, 108, 108, 32] } : ByteArray) ++ bst la ++ { data := #[32] } ++ bst lb ++ { data := #[32] } ++ bst lc) = bst (killW ++ 32 :: (la ++ 32 :: (lb ++ 32 :: lc))) := by
  rw [show ({ data := #[107, 105, 108, 108, 32] } : ByteArray) = bst [107, 105, 108, 108, 32] from rfl, show ({ data := #[32] } : ByteArray) = bst [32] from rfl, bst_app, bst_app, bst_app, bst_app, bst_app]
  congr 1
  simp [killW]
set_option maxRecDepth 100000 in
set_option maxHeartbeats 1600000 in
theorem cmds_true_true (a b c a' b' c' : Int) (w : World) (hG : Gl w) (s s' la lb lc : List UInt8)
    (h1 : ∀ w, Gl w → Calls Tryd.prog 13 #[.agg #[.bool true, .int .i64 a, .int .i64 b, .int .i64 c]] w fun x w' => x = .returned (sv s) ∧ Below w.heap.size w w') (h2 : ∀ w, Gl w → Calls Tryd.prog 13 #[.agg #[.bool true, .int .i64 a', .int .i64 b', .int .i64 c']] w fun x w' => x = .returned (sv s') ∧ Below w.heap.size w w')
    (hA : ∀ w, Gl w → Calls Tryd.prog 12 #[.int .i64 a] w fun x w' => x = .returned (sv la) ∧ Below w.heap.size w w') (hB : ∀ w, Gl w → Calls Tryd.prog 12 #[.int .i64 b] w fun x w' => x = .returned (sv lb) ∧ Below w.heap.size w w') (hC : ∀ w, Gl w → Calls Tryd.prog 12 #[.int .i64 c] w fun x w' => x = .returned (sv lc) ∧ Below w.heap.size w w')
    (n1 : ¬ 9223372036854775807 < 5 + (bst la).size) (n2 : ¬ 9223372036854775807 < 5 + (bst la).size + 1) (n3 : ¬ 9223372036854775807 < 5 + (bst la).size + 1 + (bst lb).size)
    (n4 : ¬ 9223372036854775807 < 5 + (bst la).size + 1 + (bst lb).size + 1) (n5 : ¬ 9223372036854775807 < 5 + (bst la).size + 1 + (bst lb).size + 1 + (bst lc).size)
    (hcat : ((bst s).toList == (({ data := #[98, 111, 111, 116, 32] } : ByteArray) ++ bst la ++ { data := #[32] } ++ bst lb ++ { data := #[32] } ++ bst lc).toList) = true) (HEQ : Hid (s = s' ↔ a = a' ∧ b = b' ∧ c = c')) :
    Calls Tryd.prog 5 #[.agg #[.bool true, .int .i64 a, .int .i64 b, .int .i64 c], .agg #[.bool true, .int .i64 a', .int .i64 b', .int .i64 c']] w fun x w' => x = .returned (.bool true) ∧ Below w.heap.size w w' := by
  have c1 : Below w.heap.size w ((w.alloc (.cells #[.bool true, .int .i64 a, .int .i64 b, .int .i64 c] 36)).alloc (.cells #[.bool true, .int .i64 a', .int .i64 b', .int .i64 c'] 36)) := ((Below.refl _ _).alloc (Nat.le_refl _) _).alloc (((Below.refl _ _).alloc (Nat.le_refl _) _ : Below w.heap.size w (w.alloc (.cells #[.bool true, .int .i64 a, .int .i64 b, .int .i64 c] 36))).size) _
  have N1 : ((w.alloc (.cells #[.bool true, .int .i64 a, .int .i64 b, .int .i64 c] 36)).alloc (.cells #[.bool true, .int .i64 a', .int .i64 b', .int .i64 c'] 36)).heap[w.heap.size]? = some (.cells #[.bool true, .int .i64 a, .int .i64 b, .int .i64 c] 36 (0, 0)) := by
    exact blk_stays ((Below.refl _ _).alloc (Nat.le_refl _) _) (heap_alloc_new w (.cells #[.bool true, .int .i64 a, .int .i64 b, .int .i64 c] 36))
  have M1 := heap_alloc2_new w (.cells #[.bool true, .int .i64 a, .int .i64 b, .int .i64 c] 36) (.cells #[.bool true, .int .i64 a', .int .i64 b', .int .i64 c'] 36)
  have G1 := hG.below c1
  have h1' := Lib.hid h1
  have h2' := Lib.hid h2
  have hA' := Lib.hid hA
  have hB' := Lib.hid hB
  have hC' := Lib.hid hC
  clear h1 h2 hA hB hC
  go_enter Tryd.func5, Tryd.ntmps5
  go_wp2_with fail
  generalize (w.alloc (.cells #[.bool true, .int .i64 a, .int .i64 b, .int .i64 c] 36)).alloc (.cells #[.bool true, .int .i64 a', .int .i64 b', .int .i64 c'] 36) = w1 at c1 N1 M1 G1 ⊢
  refine (head_any w1 G1).mono ?_
  rintro x w2 ⟨rfl, b2⟩
  have c2 : Below w.heap.size w w2 := c1.trans (b2.mono c1.size)
  have G2 := G1.below b2
  obtain ⟨t0, t1, t2, t3, _⟩ := cmd_cells (blk_stays b2 N1)
  obtain ⟨t4, t5, t6, t7, _⟩ := cmd_cells (blk_stays b2 M1)
  have H1 := Lib.hid (show ∀ d os, Calls Tryd.prog 13 #[.agg #[.bool true, .int .i64 a, .int .i64 b, .int .i64 c]] (grow (redrawn w2 d) os) fun x w'' => x = .returned (sv s) ∧ ∃ p : Regrown, w'' = grow (redrawn w2 p.d) p.os from fun d os => Calls.regrown_of (h1'.out _ (G2.below (below_regrown w2 d os))))
  have H2 := Lib.hid (show ∀ d os, Calls Tryd.prog 13 #[.agg #[.bool true, .int .i64 a', .int .i64 b', .int .i64 c']] (grow (redrawn w2 d) os) fun x w'' => x = .returned (sv s') ∧ ∃ p : Regrown, w'' = grow (redrawn w2 p.d) p.os from fun d os => Calls.regrown_of (h2'.out _ (G2.below (below_regrown w2 d os))))
  have HA := Lib.hid (show ∀ d os, Calls Tryd.prog 12 #[.int .i64 a] (grow (redrawn w2 d) os) fun x w'' => x = .returned (sv la) ∧ ∃ p : Regrown, w'' = grow (redrawn w2 p.d) p.os from fun d os => Calls.regrown_of (hA'.out _ (G2.below (below_regrown w2 d os))))
  have HB := Lib.hid (show ∀ d os, Calls Tryd.prog 12 #[.int .i64 b] (grow (redrawn w2 d) os) fun x w'' => x = .returned (sv lb) ∧ ∃ p : Regrown, w'' = grow (redrawn w2 p.d) p.os from fun d os => Calls.regrown_of (hB'.out _ (G2.below (below_regrown w2 d os))))
  have HC := Lib.hid (show ∀ d os, Calls Tryd.prog 12 #[.int .i64 c] (grow (redrawn w2 d) os) fun x w'' => x = .returned (sv lc) ∧ ∃ p : Regrown, w'' = grow (redrawn w2 p.d) p.os from fun d os => Calls.regrown_of (hC'.out _ (G2.below (below_regrown w2 d os))))
  clear c1 N1 M1 G1 h1' h2' hA' hB' hC' b2
  have r0 := cell_regrown t0
  have r1 := cell_regrown t1
  have r2 := cell_regrown t2
  have r3 := cell_regrown t3
  have r4 := cell_regrown t4
  have r5 := cell_regrown t5
  have r6 := cell_regrown t6
  have r7 := cell_regrown t7
  go_wp2_with fail
  by_cases e0 : a = a'
  · subst e0
    by_cases e1 : b = b'
    · subst e1
      by_cases e2 : c = c'
      · subst e2
        have hd : ((bst s).toList == (bst s').toList) = true := by rw [sv_eq]; exact decide_eq_true (HEQ.out.2 ⟨rfl, rfl, rfl⟩)
        refine wp_region_quiet_below (by kernel_rfl) (by kernel_rfl) ?_
        repeat (go_big_quiet_step (first | with_reducible exact HA.out _ _ | with_reducible exact HB.out _ _ | with_reducible exact HC.out _ _ | with_reducible exact H1.out _ _ | with_reducible exact H2.out _ _))
        refine wpQuiet_nil ?_
        intro _ hw'
        obtain ⟨⟨dq, osq⟩, hw''⟩ := hw'
        subst hw''
        have b5 : Below w.heap.size w (grow (redrawn w2 dq) osq) := c2.trans ((below_regrown w2 dq osq).mono c2.size)
        clear t0 t1 t2 t3 t4 t5 t6 t7 r0 r1 r2 r3 r4 r5 r6 r7
        go_wp2_with fail
        go_ret
        exact ⟨rfl, b5⟩
      · have d2 : (c == c') = false := by simpa using e2
        have hd : ((bst s).toList == (bst s').toList) = false := by rw [sv_eq]; exact decide_eq_false (fun z => absurd (HEQ.out.1 z).2.2 e2)
        refine wp_region_quiet_below (by kernel_rfl) (by kernel_rfl) ?_
        repeat (go_big_quiet_step (first | with_reducible exact HA.out _ _ | with_reducible exact HB.out _ _ | with_reducible exact HC.out _ _ | with_reducible exact H1.out _ _ | with_reducible exact H2.out _ _))
        refine wpQuiet_nil ?_
        intro _ hw'
        obtain ⟨⟨dq, osq⟩, hw''⟩ := hw'
        subst hw''
        have b5 : Below w.heap.size w (grow (redrawn w2 dq) osq) := c2.trans ((below_regrown w2 dq osq).mono c2.size)
        clear t0 t1 t2 t3 t4 t5 t6 t7 r0 r1 r2 r3 r4 r5 r6 r7
        go_wp2_with fail
        go_ret
        exact ⟨rfl, b5⟩
    · have d1 : (b == b') = false := by simpa using e1
      have hd : ((bst s).toList == (bst s').toList) = false := by rw [sv_eq]; exact decide_eq_false (fun z => absurd (HEQ.out.1 z).2.1 e1)
      refine wp_region_quiet_below (by kernel_rfl) (by kernel_rfl) ?_
      repeat (go_big_quiet_step (first | with_reducible exact HA.out _ _ | with_reducible exact HB.out _ _ | with_reducible exact HC.out _ _ | with_reducible exact H1.out _ _ | with_reducible exact H2.out _ _))
      refine wpQuiet_nil ?_
      intro _ hw'
      obtain ⟨⟨dq, osq⟩, hw''⟩ := hw'
      subst hw''
      have b5 : Below w.heap.size w (grow (redrawn w2 dq) osq) := c2.trans ((below_regrown w2 dq osq).mono c2.size)
      clear t0 t1 t2 t3 t4 t5 t6 t7 r0 r1 r2 r3 r4 r5 r6 r7
      go_wp2_with fail
      go_ret
      exact ⟨rfl, b5⟩
  · have d0 : (a == a') = false := by simpa using e0
    have hd : ((bst s).toList == (bst s').toList) = false := by rw [sv_eq]; exact decide_eq_false (fun z => absurd (HEQ.out.1 z).1 e0)
    refine wp_region_quiet_below (by kernel_rfl) (by kernel_rfl) ?_
    repeat (go_big_quiet_step (first | with_reducible exact HA.out _ _ | with_reducible exact HB.out _ _ | with_reducible exact HC.out _ _ | with_reducible exact H1.out _ _ | with_reducible exact H2.out _ _))
    refine wpQuiet_nil ?_
    intro _ hw'
    obtain ⟨⟨dq, osq⟩, hw''⟩ := hw'
    subst hw''
    have b5 : Below w.heap.size w (grow (redrawn w2 dq) osq) := c2.trans ((below_regrown w2 dq osq).mono c2.size)
    clear t0 t1 t2 t3 t4 t5 t6 t7 r0 r1 r2 r3 r4 r5 r6 r7
    go_wp2_with fail
    go_ret
    exact ⟨rfl, b5⟩
set_option maxRecDepth 100000 in
set_option maxHeartbeats 1600000 in
theorem cmds_true_false (a b c a' b' c' : Int) (w : World) (hG : Gl w) (s s' la lb lc : List UInt8)
    (h1 : ∀ w, Gl w → Calls Tryd.prog 13 #[.agg #[.bool true, .int .i64 a, .int .i64 b, .int .i64 c]] w fun x w' => x = .returned (sv s) ∧ Below w.heap.size w w') (h2 : ∀ w, Gl w → Calls Tryd.prog 13 #[.agg #[.bool false, .int .i64 a', .int .i64 b', .int .i64 c']] w fun x w' => x = .returned (sv s') ∧ Below w.heap.size w w')
    (hA : ∀ w, Gl w → Calls Tryd.prog 12 #[.int .i64 a] w fun x w' => x = .returned (sv la) ∧ Below w.heap.size w w') (hB : ∀ w, Gl w → Calls Tryd.prog 12 #[.int .i64 b] w fun x w' => x = .returned (sv lb) ∧ Below w.heap.size w w') (hC : ∀ w, Gl w → Calls Tryd.prog 12 #[.int .i64 c] w fun x w' => x = .returned (sv lc) ∧ Below w.heap.size w w')
    (n1 : ¬ 9223372036854775807 < 5 + (bst la).size) (n2 : ¬ 9223372036854775807 < 5 + (bst la).size + 1) (n3 : ¬ 9223372036854775807 < 5 + (bst la).size + 1 + (bst lb).size)
    (n4 : ¬ 9223372036854775807 < 5 + (bst la).size + 1 + (bst lb).size + 1) (n5 : ¬ 9223372036854775807 < 5 + (bst la).size + 1 + (bst lb).size + 1 + (bst lc).size)
    (hcat : ((bst s).toList == (({ data := #[98, 111, 111, 116, 32] } : ByteArray) ++ bst la ++ { data := #[32] } ++ bst lb ++ { data := #[32] } ++ bst lc).toList) = true) (HNE : Hid (s ≠ s')) :
    Calls Tryd.prog 5 #[.agg #[.bool true, .int .i64 a, .int .i64 b, .int .i64 c], .agg #[.bool false, .int .i64 a', .int .i64 b', .int .i64 c']] w fun x w' => x = .returned (.bool true) ∧ Below w.heap.size w w' := by
  have c1 : Below w.heap.size w ((w.alloc (.cells #[.bool true, .int .i64 a, .int .i64 b, .int .i64 c] 36)).alloc (.cells #[.bool false, .int .i64 a', .int .i64 b', .int .i64 c'] 36)) := ((Below.refl _ _).alloc (Nat.le_refl _) _).alloc (((Below.refl _ _).alloc (Nat.le_refl _) _ : Below w.heap.size w (w.alloc (.cells #[.bool true, .int .i64 a, .int .i64 b, .int .i64 c] 36))).size) _
  have N1 : ((w.alloc (.cells #[.bool true, .int .i64 a, .int .i64 b, .int .i64 c] 36)).alloc (.cells #[.bool false, .int .i64 a', .int .i64 b', .int .i64 c'] 36)).heap[w.heap.size]? = some (.cells #[.bool true, .int .i64 a, .int .i64 b, .int .i64 c] 36 (0, 0)) := by
    exact blk_stays ((Below.refl _ _).alloc (Nat.le_refl _) _) (heap_alloc_new w (.cells #[.bool true, .int .i64 a, .int .i64 b, .int .i64 c] 36))
  have M1 := heap_alloc2_new w (.cells #[.bool true, .int .i64 a, .int .i64 b, .int .i64 c] 36) (.cells #[.bool false, .int .i64 a', .int .i64 b', .int .i64 c'] 36)
  have G1 := hG.below c1
  have h1' := Lib.hid h1
  have h2' := Lib.hid h2
  have hA' := Lib.hid hA
  have hB' := Lib.hid hB
  have hC' := Lib.hid hC
  clear h1 h2 hA hB hC
  go_enter Tryd.func5, Tryd.ntmps5
  go_wp2_with fail
  generalize (w.alloc (.cells #[.bool true, .int .i64 a, .int .i64 b, .int .i64 c] 36)).alloc (.cells #[.bool false, .int .i64 a', .int .i64 b', .int .i64 c'] 36) = w1 at c1 N1 M1 G1 ⊢
  refine (head_any w1 G1).mono ?_
  rintro x w2 ⟨rfl, b2⟩
  have c2 : Below w.heap.size w w2 := c1.trans (b2.mono c1.size)
  have G2 := G1.below b2
  obtain ⟨t0, t1, t2, t3, _⟩ := cmd_cells (blk_stays b2 N1)
  obtain ⟨t4, t5, t6, t7, _⟩ := cmd_cells (blk_stays b2 M1)
  have H1 := Lib.hid (show ∀ d os, Calls Tryd.prog 13 #[.agg #[.bool true, .int .i64 a, .int .i64 b, .int .i64 c]] (grow (redrawn w2 d) os) fun x w'' => x = .returned (sv s) ∧ ∃ p : Regrown, w'' = grow (redrawn w2 p.d) p.os from fun d os => Calls.regrown_of (h1'.out _ (G2.below (below_regrown w2 d os))))
  have H2 := Lib.hid (show ∀ d os, Calls Tryd.prog 13 #[.agg #[.bool false, .int .i64 a', .int .i64 b', .int .i64 c']] (grow (redrawn w2 d) os) fun x w'' => x = .returned (sv s') ∧ ∃ p : Regrown, w'' = grow (redrawn w2 p.d) p.os from fun d os => Calls.regrown_of (h2'.out _ (G2.below (below_regrown w2 d os))))
  have HA := Lib.hid (show ∀ d os, Calls Tryd.prog 12 #[.int .i64 a] (grow (redrawn w2 d) os) fun x w'' => x = .returned (sv la) ∧ ∃ p : Regrown, w'' = grow (redrawn w2 p.d) p.os from fun d os => Calls.regrown_of (hA'.out _ (G2.below (below_regrown w2 d os))))
  have HB := Lib.hid (show ∀ d os, Calls Tryd.prog 12 #[.int .i64 b] (grow (redrawn w2 d) os) fun x w'' => x = .returned (sv lb) ∧ ∃ p : Regrown, w'' = grow (redrawn w2 p.d) p.os from fun d os => Calls.regrown_of (hB'.out _ (G2.below (below_regrown w2 d os))))
  have HC := Lib.hid (show ∀ d os, Calls Tryd.prog 12 #[.int .i64 c] (grow (redrawn w2 d) os) fun x w'' => x = .returned (sv lc) ∧ ∃ p : Regrown, w'' = grow (redrawn w2 p.d) p.os from fun d os => Calls.regrown_of (hC'.out _ (G2.below (below_regrown w2 d os))))
  clear c1 N1 M1 G1 h1' h2' hA' hB' hC' b2
  have r0 := cell_regrown t0
  have r1 := cell_regrown t1
  have r2 := cell_regrown t2
  have r3 := cell_regrown t3
  have r4 := cell_regrown t4
  have r5 := cell_regrown t5
  have r6 := cell_regrown t6
  have r7 := cell_regrown t7
  go_wp2_with fail
  have hd : ((bst s).toList == (bst s').toList) = false := by rw [sv_eq]; exact decide_eq_false HNE.out
  refine wp_region_quiet_below (by kernel_rfl) (by kernel_rfl) ?_
  repeat (go_big_quiet_step (first | with_reducible exact HA.out _ _ | with_reducible exact HB.out _ _ | with_reducible exact HC.out _ _ | with_reducible exact H1.out _ _ | with_reducible exact H2.out _ _))
  refine wpQuiet_nil ?_
  intro _ hw'
  obtain ⟨⟨dq, osq⟩, hw''⟩ := hw'
  subst hw''
  have b5 : Below w.heap.size w (grow (redrawn w2 dq) osq) := c2.trans ((below_regrown w2 dq osq).mono c2.size)
  clear t0 t1 t2 t3 t4 t5 t6 t7 r0 r1 r2 r3 r4 r5 r6 r7
  go_wp2_with fail
  go_ret
  exact ⟨rfl, b5⟩
set_option maxRecDepth 100000 in
set_option maxHeartbeats 1600000 in
theorem cmds_false_true (a b c a' b' c' : Int) (w : World) (hG : Gl w) (s s' la lb lc : List UInt8)
    (h1 : ∀ w, Gl w → Calls Tryd.prog 13 #[.agg #[.bool false, .int .i64 a, .int .i64 b, .int .i64 c]] w fun x w' => x = .returned (sv s) ∧ Below w.heap.size w w') (h2 : ∀ w, Gl w → Calls Tryd.prog 13 #[.agg #[.bool true, .int .i64 a', .int .i64 b', .int .i64 c']] w fun x w' => x = .returned (sv s') ∧ Below w.heap.size w w')
    (hA : ∀ w, Gl w → Calls Tryd.prog 12 #[.int .i64 a] w fun x w' => x = .returned (sv la) ∧ Below w.heap.size w w') (hB : ∀ w, Gl w → Calls Tryd.prog 12 #[.int .i64 b] w fun x w' => x = .returned (sv lb) ∧ Below w.heap.size w w') (hC : ∀ w, Gl w → Calls Tryd.prog 12 #[.int .i64 c] w fun x w' => x = .returned (sv lc) ∧ Below w.heap.size w w')
    (n1 : ¬ 9223372036854775807 < 5 + (bst la).size) (n2 : ¬ 9223372036854775807 < 5 + (bst la).size + 1) (n3 : ¬ 9223372036854775807 < 5 + (bst la).size + 1 + (bst lb).size)
    (n4 : ¬ 9223372036854775807 < 5 + (bst la).size + 1 + (bst lb).size + 1) (n5 : ¬ 9223372036854775807 < 5 + (bst la).size + 1 + (bst lb).size + 1 + (bst lc).size)
    (hcat : ((bst s).toList == (({ data := #[107, 105, 108, 108, 32] } : ByteArray) ++ bst la ++ { data := #[32] } ++ bst lb ++ { data := #[32] } ++ bst lc).toList) = true) (HNE : Hid (s ≠ s')) :
    Calls Tryd.prog 5 #[.agg #[.bool false, .int .i64 a, .int .i64 b, .int .i64 c], .agg #[.bool true, .int .i64 a', .int .i64 b', .int .i64 c']] w fun x w' => x = .returned (.bool true) ∧ Below w.heap.size w w' := by
  have c1 : Below w.heap.size w ((w.alloc (.cells #[.bool false, .int .i64 a, .int .i64 b, .int .i64 c] 36)).alloc (.cells #[.bool true, .int .i64 a', .int .i64 b', .int .i64 c'] 36)) := ((Below.refl _ _).alloc (Nat.le_refl _) _).alloc (((Below.refl _ _).alloc (Nat.le_refl _) _ : Below w.heap.size w (w.alloc (.cells #[.bool false, .int .i64 a, .int .i64 b, .int .i64 c] 36))).size) _
  have N1 : ((w.alloc (.cells #[.bool false, .int .i64 a, .int .i64 b, .int .i64 c] 36)).alloc (.cells #[.bool true, .int .i64 a', .int .i64 b', .int .i64 c'] 36)).heap[w.heap.size]? = some (.cells #[.bool false, .int .i64 a, .int .i64 b, .int .i64 c] 36 (0, 0)) := by
    exact blk_stays ((Below.refl _ _).alloc (Nat.le_refl _) _) (heap_alloc_new w (.cells #[.bool false, .int .i64 a, .int .i64 b, .int .i64 c] 36))
  have M1 := heap_alloc2_new w (.cells #[.bool false, .int .i64 a, .int .i64 b, .int .i64 c] 36) (.cells #[.bool true, .int .i64 a', .int .i64 b', .int .i64 c'] 36)
  have G1 := hG.below c1
  have h1' := Lib.hid h1
  have h2' := Lib.hid h2
  have hA' := Lib.hid hA
  have hB' := Lib.hid hB
  have hC' := Lib.hid hC
  clear h1 h2 hA hB hC
  go_enter Tryd.func5, Tryd.ntmps5
  go_wp2_with fail
  generalize (w.alloc (.cells #[.bool false, .int .i64 a, .int .i64 b, .int .i64 c] 36)).alloc (.cells #[.bool true, .int .i64 a', .int .i64 b', .int .i64 c'] 36) = w1 at c1 N1 M1 G1 ⊢
  refine (head_any w1 G1).mono ?_
  rintro x w2 ⟨rfl, b2⟩
  have c2 : Below w.heap.size w w2 := c1.trans (b2.mono c1.size)
  have G2 := G1.below b2
  obtain ⟨t0, t1, t2, t3, _⟩ := cmd_cells (blk_stays b2 N1)
  obtain ⟨t4, t5, t6, t7, _⟩ := cmd_cells (blk_stays b2 M1)
  have H1 := Lib.hid (show ∀ d os, Calls Tryd.prog 13 #[.agg #[.bool false, .int .i64 a, .int .i64 b, .int .i64 c]] (grow (redrawn w2 d) os) fun x w'' => x = .returned (sv s) ∧ ∃ p : Regrown, w'' = grow (redrawn w2 p.d) p.os from fun d os => Calls.regrown_of (h1'.out _ (G2.below (below_regrown w2 d os))))
  have H2 := Lib.hid (show ∀ d os, Calls Tryd.prog 13 #[.agg #[.bool true, .int .i64 a', .int .i64 b', .int .i64 c']] (grow (redrawn w2 d) os) fun x w'' => x = .returned (sv s') ∧ ∃ p : Regrown, w'' = grow (redrawn w2 p.d) p.os from fun d os => Calls.regrown_of (h2'.out _ (G2.below (below_regrown w2 d os))))
  have HA := Lib.hid (show ∀ d os, Calls Tryd.prog 12 #[.int .i64 a] (grow (redrawn w2 d) os) fun x w'' => x = .returned (sv la) ∧ ∃ p : Regrown, w'' = grow (redrawn w2 p.d) p.os from fun d os => Calls.regrown_of (hA'.out _ (G2.below (below_regrown w2 d os))))
  have HB := Lib.hid (show ∀ d os, Calls Tryd.prog 12 #[.int .i64 b] (grow (redrawn w2 d) os) fun x w'' => x = .returned (sv lb) ∧ ∃ p : Regrown, w'' = grow (redrawn w2 p.d) p.os from fun d os => Calls.regrown_of (hB'.out _ (G2.below (below_regrown w2 d os))))
  have HC := Lib.hid (show ∀ d os, Calls Tryd.prog 12 #[.int .i64 c] (grow (redrawn w2 d) os) fun x w'' => x = .returned (sv lc) ∧ ∃ p : Regrown, w'' = grow (redrawn w2 p.d) p.os from fun d os => Calls.regrown_of (hC'.out _ (G2.below (below_regrown w2 d os))))
  clear c1 N1 M1 G1 h1' h2' hA' hB' hC' b2
  have r0 := cell_regrown t0
  have r1 := cell_regrown t1
  have r2 := cell_regrown t2
  have r3 := cell_regrown t3
  have r4 := cell_regrown t4
  have r5 := cell_regrown t5
  have r6 := cell_regrown t6
  have r7 := cell_regrown t7
  go_wp2_with fail
  have hd : ((bst s).toList == (bst s').toList) = false := by rw [sv_eq]; exact decide_eq_false HNE.out
  refine wp_region_quiet_below (by kernel_rfl) (by kernel_rfl) ?_
  repeat (go_big_quiet_step (first | with_reducible exact HA.out _ _ | with_reducible exact HB.out _ _ | with_reducible exact HC.out _ _ | with_reducible exact H1.out _ _ | with_reducible exact H2.out _ _))
  refine wpQuiet_nil ?_
  intro _ hw'
  obtain ⟨⟨dq, osq⟩, hw''⟩ := hw'
  subst hw''
  have b5 : Below w.heap.size w (grow (redrawn w2 dq) osq) := c2.trans ((below_regrown w2 dq osq).mono c2.size)
  clear t0 t1 t2 t3 t4 t5 t6 t7 r0 r1 r2 r3 r4 r5 r6 r7
  go_wp2_with fail
  go_ret
  exact ⟨rfl, b5⟩
set_option maxRecDepth 100000 in
set_option maxHeartbeats 1600000 in
theorem cmds_false_false (a b c a' b' c' : Int) (w : World) (hG : Gl w) (s s' la lb lc : List UInt8)
    (h1 : ∀ w, Gl w → Calls Tryd.prog 13 #[.agg #[.bool false, .int .i64 a, .int .i64 b, .int .i64 c]] w fun x w' => x = .returned (sv s) ∧ Below w.heap.size w w') (h2 : ∀ w, Gl w → Calls Tryd.prog 13 #[.agg #[.bool false, .int .i64 a', .int .i64 b', .int .i64 c']] w fun x w' => x = .returned (sv s') ∧ Below w.heap.size w w')
    (hA : ∀ w, Gl w → Calls Tryd.prog 12 #[.int .i64 a] w fun x w' => x = .returned (sv la) ∧ Below w.heap.size w w') (hB : ∀ w, Gl w → Calls Tryd.prog 12 #[.int .i64 b] w fun x w' => x = .returned (sv lb) ∧ Below w.heap.size w w') (hC : ∀ w, Gl w → Calls Tryd.prog 12 #[.int .i64 c] w fun x w' => x = .returned (sv lc) ∧ Below w.heap.size w w')
    (n1 : ¬ 9223372036854775807 < 5 + (bst la).size) (n2 : ¬ 9223372036854775807 < 5 + (bst la).size + 1) (n3 : ¬ 9223372036854775807 < 5 + (bst la).size + 1 + (bst lb).size)
    (n4 : ¬ 9223372036854775807 < 5 + (bst la).size + 1 + (bst lb).size + 1) (n5 : ¬ 9223372036854775807 < 5 + (bst la).size + 1 + (bst lb).size + 1 + (bst lc).size)
    (hcat : ((bst s).toList == (({ data := #[107, 105, 108, 108, 32] } : ByteArray) ++ bst la ++ { data := #[32] } ++ bst lb ++ { data := #[32] } ++ bst lc).toList) = true) (HEQ : Hid (s = s' ↔ a = a' ∧ b = b' ∧ c = c')) :
    Calls Tryd.prog 5 #[.agg #[.bool false, .int .i64 a, .int .i64 b, .int .i64 c], .agg #[.bool false, .int .i64 a', .int .i64 b', .int .i64 c']] w fun x w' => x = .returned (.bool true) ∧ Below w.heap.size w w' := by
  have c1 : Below w.heap.size w ((w.alloc (.cells #[.bool false, .int .i64 a, .int .i64 b, .int .i64 c] 36)).alloc (.cells #[.bool false, .int .i64 a', .int .i64 b', .int .i64 c'] 36)) := ((Below.refl _ _).alloc (Nat.le_refl _) _).alloc (((Below.refl _ _).alloc (Nat.le_refl _) _ : Below w.heap.size w (w.alloc (.cells #[.bool false, .int .i64 a, .int .i64 b, .int .i64 c] 36))).size) _
  have N1 : ((w.alloc (.cells #[.bool false, .int .i64 a, .int .i64 b, .int .i64 c] 36)).alloc (.cells #[.bool false, .int .i64 a', .int .i64 b', .int .i64 c'] 36)).heap[w.heap.size]? = some (.cells #[.bool false, .int .i64 a, .int .i64 b, .int .i64 c] 36 (0, 0)) := by
    exact blk_stays ((Below.refl _ _).alloc (Nat.le_refl _) _) (heap_alloc_new w (.cells #[.bool false, .int .i64 a, .int .i64 b, .int .i64 c] 36))
  have M1 := heap_alloc2_new w (.cells #[.bool false, .int .i64 a, .int .i64 b, .int .i64 c] 36) (.cells #[.bool false, .int .i64 a', .int .i64 b', .int .i64 c'] 36)
  have G1 := hG.below c1
  have h1' := Lib.hid h1
  have h2' := Lib.hid h2
  have hA' := Lib.hid hA
  have hB' := Lib.hid hB
  have hC' := Lib.hid hC
  clear h1 h2 hA hB hC
  go_enter Tryd.func5, Tryd.ntmps5
  go_wp2_with fail
  generalize (w.alloc (.cells #[.bool false, .int .i64 a, .int .i64 b, .int .i64 c] 36)).alloc (.cells #[.bool false, .int .i64 a', .int .i64 b', .int .i64 c'] 36) = w1 at c1 N1 M1 G1 ⊢
  refine (head_any w1 G1).mono ?_
  rintro x w2 ⟨rfl, b2⟩
  have c2 : Below w.heap.size w w2 := c1.trans (b2.mono c1.size)
  have G2 := G1.below b2
  obtain ⟨t0, t1, t2, t3, _⟩ := cmd_cells (blk_stays b2 N1)
  obtain ⟨t4, t5, t6, t7, _⟩ := cmd_cells (blk_stays b2 M1)
  have H1 := Lib.hid (show ∀ d os, Calls Tryd.prog 13 #[.agg #[.bool false, .int .i64 a, .int .i64 b, .int .i64 c]] (grow (redrawn w2 d) os) fun x w'' => x = .returned (sv s) ∧ ∃ p : Regrown, w'' = grow (redrawn w2 p.d) p.os from fun d os => Calls.regrown_of (h1'.out _ (G2.below (below_regrown w2 d os))))
  have H2 := Lib.hid (show ∀ d os, Calls Tryd.prog 13 #[.agg #[.bool false, .int .i64 a', .int .i64 b', .int .i64 c']] (grow (redrawn w2 d) os) fun x w'' => x = .returned (sv s') ∧ ∃ p : Regrown, w'' = grow (redrawn w2 p.d) p.os from fun d os => Calls.regrown_of (h2'.out _ (G2.below (below_regrown w2 d os))))
  have HA := Lib.hid (show ∀ d os, Calls Tryd.prog 12 #[.int .i64 a] (grow (redrawn w2 d) os) fun x w'' => x = .returned (sv la) ∧ ∃ p : Regrown, w'' = grow (redrawn w2 p.d) p.os from fun d os => Calls.regrown_of (hA'.out _ (G2.below (below_regrown w2 d os))))
  have HB := Lib.hid (show ∀ d os, Calls Tryd.prog 12 #[.int .i64 b] (grow (redrawn w2 d) os) fun x w'' => x = .returned (sv lb) ∧ ∃ p : Regrown, w'' = grow (redrawn w2 p.d) p.os from fun d os => Calls.regrown_of (hB'.out _ (G2.below (below_regrown w2 d os))))
  have HC := Lib.hid (show ∀ d os, Calls Tryd.prog 12 #[.int .i64 c] (grow (redrawn w2 d) os) fun x w'' => x = .returned (sv lc) ∧ ∃ p : Regrown, w'' = grow (redrawn w2 p.d) p.os from fun d os => Calls.regrown_of (hC'.out _ (G2.below (below_regrown w2 d os))))
  clear c1 N1 M1 G1 h1' h2' hA' hB' hC' b2
  have r0 := cell_regrown t0
  have r1 := cell_regrown t1
  have r2 := cell_regrown t2
  have r3 := cell_regrown t3
  have r4 := cell_regrown t4
  have r5 := cell_regrown t5
  have r6 := cell_regrown t6
  have r7 := cell_regrown t7
  go_wp2_with fail
  by_cases e0 : a = a'
  · subst e0
    by_cases e1 : b = b'
    · subst e1
      by_cases e2 : c = c'
      · subst e2
        have hd : ((bst s).toList == (bst s').toList) = true := by rw [sv_eq]; exact decide_eq_true (HEQ.out.2 ⟨rfl, rfl, rfl⟩)
        refine wp_region_quiet_below (by kernel_rfl) (by kernel_rfl) ?_
        repeat (go_big_quiet_step (first | with_reducible exact HA.out _ _ | with_reducible exact HB.out _ _ | with_reducible exact HC.out _ _ | with_reducible exact H1.out _ _ | with_reducible exact H2.out _ _))
        refine wpQuiet_nil ?_
        intro _ hw'
        obtain ⟨⟨dq, osq⟩, hw''⟩ := hw'
        subst hw''
        have b5 : Below w.heap.size w (grow (redrawn w2 dq) osq) := c2.trans ((below_regrown w2 dq osq).mono c2.size)
        clear t0 t1 t2 t3 t4 t5 t6 t7 r0 r1 r2 r3 r4 r5 r6 r7
        go_wp2_with fail
        go_ret
        exact ⟨rfl, b5⟩
      · have d2 : (c == c') = false := by simpa using e2
        have hd : ((bst s).toList == (bst s').toList) = false := by rw [sv_eq]; exact decide_eq_false (fun z => absurd (HEQ.out.1 z).2.2 e2)
        refine wp_region_quiet_below (by kernel_rfl) (by kernel_rfl) ?_
        repeat (go_big_quiet_step (first | with_reducible exact HA.out _ _ | with_reducible exact HB.out _ _ | with_reducible exact HC.out _ _ | with_reducible exact H1.out _ _ | with_reducible exact H2.out _ _))
        refine wpQuiet_nil ?_
        intro _ hw'
        obtain ⟨⟨dq, osq⟩, hw''⟩ := hw'
        subst hw''
        have b5 : Below w.heap.size w (grow (redrawn w2 dq) osq) := c2.trans ((below_regrown w2 dq osq).mono c2.size)
        clear t0 t1 t2 t3 t4 t5 t6 t7 r0 r1 r2 r3 r4 r5 r6 r7
        go_wp2_with fail
        go_ret
        exact ⟨rfl, b5⟩
    · have d1 : (b == b') = false := by simpa using e1
      have hd : ((bst s).toList == (bst s').toList) = false := by rw [sv_eq]; exact decide_eq_false (fun z => absurd (HEQ.out.1 z).2.1 e1)
      refine wp_region_quiet_below (by kernel_rfl) (by kernel_rfl) ?_
      repeat (go_big_quiet_step (first | with_reducible exact HA.out _ _ | with_reducible exact HB.out _ _ | with_reducible exact HC.out _ _ | with_reducible exact H1.out _ _ | with_reducible exact H2.out _ _))
      refine wpQuiet_nil ?_
      intro _ hw'
      obtain ⟨⟨dq, osq⟩, hw''⟩ := hw'
      subst hw''
      have b5 : Below w.heap.size w (grow (redrawn w2 dq) osq) := c2.trans ((below_regrown w2 dq osq).mono c2.size)
      clear t0 t1 t2 t3 t4 t5 t6 t7 r0 r1 r2 r3 r4 r5 r6 r7
      go_wp2_with fail
      go_ret
      exact ⟨rfl, b5⟩
  · have d0 : (a == a') = false := by simpa using e0
    have hd : ((bst s).toList == (bst s').toList) = false := by rw [sv_eq]; exact decide_eq_false (fun z => absurd (HEQ.out.1 z).1 e0)
    refine wp_region_quiet_below (by kernel_rfl) (by kernel_rfl) ?_
    repeat (go_big_quiet_step (first | with_reducible exact HA.out _ _ | with_reducible exact HB.out _ _ | with_reducible exact HC.out _ _ | with_reducible exact H1.out _ _ | with_reducible exact H2.out _ _))
    refine wpQuiet_nil ?_
    intro _ hw'
    obtain ⟨⟨dq, osq⟩, hw''⟩ := hw'
    subst hw''
    have b5 : Below w.heap.size w (grow (redrawn w2 dq) osq) := c2.trans ((below_regrown w2 dq osq).mono c2.size)
    clear t0 t1 t2 t3 t4 t5 t6 t7 r0 r1 r2 r3 r4 r5 r6 r7
    go_wp2_with fail
    go_ret
    exact ⟨rfl, b5⟩

theorem cmds_walk (p : Bool) (a b c : Int) (p' : Bool) (a' b' c' : Int) (w : World) (hG : Gl w) (ha : -9223372036854775808 ≤ a ∧ a ≤ 9223372036854775807) (hb : -9223372036854775808 ≤ b ∧ b ≤ 9223372036854775807) (hc : -9223372036854775808 ≤ c ∧ c ≤ 9223372036854775807) (ha' : -9223372036854775808 ≤ a' ∧ a' ≤ 9223372036854775807) (hb' : -9223372036854775808 ≤ b' ∧ b' ≤ 9223372036854775807) (hc' : -9223372036854775808 ≤ c' ∧ c' ≤ 9223372036854775807) :
    Calls Tryd.prog 5 #[.agg #[.bool p, .int .i64 a, .int .i64 b, .int .i64 c], .agg #[.bool p', .int .i64 a', .int .i64 b', .int .i64 c']] w fun x w' => x = .returned (.bool true) ∧ Below w.heap.size w w' := by
  have ea := itoa_len a ha.1 ha.2
  have eb := itoa_len b hb.1 hb.2
  have ec := itoa_len c hc.1 hc.2
  have za := bst_size (Lib.itoa a)
  have zb := bst_size (Lib.itoa b)
  have zc := bst_size (Lib.itoa c)
  cases p <;> cases p'
  · exact cmds_false_false a b c a' b' c' w hG (cw false a b c) (cw false a' b' c') (Lib.itoa a) (Lib.itoa b) (Lib.itoa c) (fun w hw => cmd_any false a b c w hw ha hb hc) (fun w hw => cmd_any false a' b' c' w hw ha' hb' hc')
      (fun w hw => itoa_any a w ha.1 ha.2 hw) (fun w hw => itoa_any b w hb.1 hb.2 hw) (fun w hw => itoa_any c w hc.1 hc.2 hw) (by omega) (by omega) (by omega) (by omega) (by omega)
      (by rw [cat_false, sv_eq]; exact decide_eq_true rfl) (Lib.hid ⟨fun z => (cw_inj z).2, fun ⟨z1, z2, z3⟩ => by rw [z1, z2, z3]⟩)
  · exact cmds_false_true a b c a' b' c' w hG (cw false a b c) (cw true a' b' c') (Lib.itoa a) (Lib.itoa b) (Lib.itoa c) (fun w hw => cmd_any false a b c w hw ha hb hc) (fun w hw => cmd_any true a' b' c' w hw ha' hb' hc')
      (fun w hw => itoa_any a w ha.1 ha.2 hw) (fun w hw => itoa_any b w hb.1 hb.2 hw) (fun w hw => itoa_any c w hc.1 hc.2 hw) (by omega) (by omega) (by omega) (by omega) (by omega)
      (by rw [cat_false, sv_eq]; exact decide_eq_true rfl) (Lib.hid fun z => absurd (cw_inj z).1 (by decide))
  · exact cmds_true_false a b c a' b' c' w hG (cw true a b c) (cw false a' b' c') (Lib.itoa a) (Lib.itoa b) (Lib.itoa c) (fun w hw => cmd_any true a b c w hw ha hb hc) (fun w hw => cmd_any false a' b' c' w hw ha' hb' hc')
      (fun w hw => itoa_any a w ha.1 ha.2 hw) (fun w hw => itoa_any b w hb.1 hb.2 hw) (fun w hw => itoa_any c w hc.1 hc.2 hw) (by omega) (by omega) (by omega) (by omega) (by omega)
      (by rw [cat_true, sv_eq]; exact decide_eq_true rfl) (Lib.hid fun z => absurd (cw_inj z).1 (by decide))
  · exact cmds_true_true a b c a' b' c' w hG (cw true a b c) (cw true a' b' c') (Lib.itoa a) (Lib.itoa b) (Lib.itoa c) (fun w hw => cmd_any true a b c w hw ha hb hc) (fun w hw => cmd_any true a' b' c' w hw ha' hb' hc')
      (fun w hw => itoa_any a w ha.1 ha.2 hw) (fun w hw => itoa_any b w hb.1 hb.2 hw) (fun w hw => itoa_any c w hc.1 hc.2 hw) (by omega) (by omega) (by omega) (by omega) (by omega)
      (by rw [cat_true, sv_eq]; exact decide_eq_true rfl) (Lib.hid ⟨fun z => (cw_inj z).2, fun ⟨z1, z2, z3⟩ => by rw [z1, z2, z3]⟩)

end Go.Proofs.YtkfhgdnlieaedaaDoor.W
