/- Contracts of an answer's String and of Parse. Made by mk_ree.py. -/
import Derived.Test.YtkfhgdnlieaedaaDoorReD
namespace Go.Proofs.YtkfhgdnlieaedaaDoor.W
open Go.RowKit

theorem right_ok (k b y e : Int) (w : World) (h : okA ⟨k, b, y, e⟩) : Calls Tryd.prog 10 #[.agg #[.int .i64 k, .int .i64 b, .int .i64 y, .int .i64 e]] w fun e w' => e = .returned (.bool true) ∧ Below w.heap.size w w' := right_any k b y e w true ⟨fun _ => h, fun _ => rfl⟩
theorem right_no (k b y e : Int) (w : World) (h : ¬ okA ⟨k, b, y, e⟩) : Calls Tryd.prog 10 #[.agg #[.int .i64 k, .int .i64 b, .int .i64 y, .int .i64 e]] w fun e w' => e = .returned (.bool false) ∧ Below w.heap.size w w' := right_any k b y e w false ⟨fun q => by simp at q, fun q => absurd q h⟩
theorem bst_size (l : List UInt8) : (bst l).size = l.length := by simp [bst, ByteArray.size]
theorem wE_len (e : Int) : (wE e).length ≤ 10 := by unfold wE; (repeat' split) <;> simp
theorem wY_len (e : Int) : (wY e).length ≤ 10 := by unfold wY; (repeat' split) <;> simp
theorem ap_out (a b : ByteArray) (l r : List UInt8) (ha : a = bst l) (hb : b = bst r) : Value.string (a ++ b) = sv (l ++ r) := by rw [ha, hb, bst_app]

set_option maxRecDepth 100000 in
set_option maxHeartbeats 1600000 in
theorem str_no (k b y e : Int) (w : World) (hG : Gl w) (h : ¬ okA ⟨k, b, y, e⟩) :
    Calls Tryd.prog 9 #[.agg #[.int .i64 k, .int .i64 b, .int .i64 y, .int .i64 e]] w fun x w' => x = .returned (sv ([])) ∧ Below w.heap.size w w' := by
  have b0 : Below w.heap.size w (w.alloc (.cells #[.int .i64 k, .int .i64 b, .int .i64 y, .int .i64 e] 26)) := (Below.refl _ _).alloc (Nat.le_refl _) _
  have hN := heap_alloc_new w (.cells #[.int .i64 k, .int .i64 b, .int .i64 y, .int .i64 e] 26)
  have hR := right_no k b y e
  have HR := Lib.hid hR
  have hok : ¬ okA ⟨k, b, y, e⟩ := h
  have HOK := Lib.hid hok
  have hG1 := hG.below b0
  clear hR hok
  go_enter Tryd.func9, Tryd.ntmps9
  go_wp2_with fail
  generalize w.alloc (.cells #[.int .i64 k, .int .i64 b, .int .i64 y, .int .i64 e] 26) = w1 at b0 hN hG1 ⊢
  refine (HR.out w1 HOK.out).mono ?_
  rintro x w2 ⟨rfl, b2⟩
  have hN2 := (Only.of_below (S := fun _ => False) b2).blk (fun q => q) hN
  have b02 : Below w.heap.size w w2 := b0.trans (b2.mono b0.size)
  have hG2 := hG1.below b2
  obtain ⟨t0, t1, t2, t3⟩ := an_cells hN2
  clear hN2 hN b0 b2 hG1
  go_wp2_with fail
  go_ret
  exact ⟨rfl, b02⟩

set_option maxRecDepth 100000 in
set_option maxHeartbeats 1600000 in
theorem str0  (w : World) (hG : Gl w)  :
    Calls Tryd.prog 9 #[.agg #[.int .i64 0, .int .i64 0, .int .i64 0, .int .i64 0]] w fun x w' => x = .returned (sv ([111, 107])) ∧ Below w.heap.size w w' := by
  have b0 : Below w.heap.size w (w.alloc (.cells #[.int .i64 0, .int .i64 0, .int .i64 0, .int .i64 0] 26)) := (Below.refl _ _).alloc (Nat.le_refl _) _
  have hN := heap_alloc_new w (.cells #[.int .i64 0, .int .i64 0, .int .i64 0, .int .i64 0] 26)
  have hR := right_ok 0 0 0 0
  have HR := Lib.hid hR
  have hok : okA ⟨0, 0, 0, 0⟩ := by unfold okA; first | (simp; done) | (simp; omega) | omega
  have HOK := Lib.hid hok
  have hG1 := hG.below b0
  clear hR hok
  go_enter Tryd.func9, Tryd.ntmps9
  go_wp2_with fail
  generalize w.alloc (.cells #[.int .i64 0, .int .i64 0, .int .i64 0, .int .i64 0] 26) = w1 at b0 hN hG1 ⊢
  refine (HR.out w1 HOK.out).mono ?_
  rintro x w2 ⟨rfl, b2⟩
  have hN2 := (Only.of_below (S := fun _ => False) b2).blk (fun q => q) hN
  have b02 : Below w.heap.size w w2 := b0.trans (b2.mono b0.size)
  have hG2 := hG1.below b2
  obtain ⟨t0, t1, t2, t3⟩ := an_cells hN2
  clear hN2 hN b0 b2 hG1
  go_wp2_with fail
  go_ret
  exact ⟨rfl, b02⟩

set_option maxRecDepth 100000 in
set_option maxHeartbeats 1600000 in
theorem str1 (e : Int) (w : World) (hG : Gl w) (h1 : 1 ≤ e) (h6 : e ≤ 6) :
    Calls Tryd.prog 9 #[.agg #[.int .i64 1, .int .i64 0, .int .i64 0, .int .i64 e]] w fun x w' => x = .returned (sv ([114, 101, 102, 117, 115, 101, 100, 32] ++ wE e)) ∧ Below w.heap.size w w' := by
  have b0 : Below w.heap.size w (w.alloc (.cells #[.int .i64 1, .int .i64 0, .int .i64 0, .int .i64 e] 26)) := (Below.refl _ _).alloc (Nat.le_refl _) _
  have hN := heap_alloc_new w (.cells #[.int .i64 1, .int .i64 0, .int .i64 0, .int .i64 e] 26)
  obtain ⟨s, hs⟩ : ∃ s, [114, 101, 102, 117, 115, 101, 100, 32] ++ wE e = s := ⟨_, rfl⟩
  have HS := Lib.hid hs
  rw [hs]
  clear hs
  have hR := right_ok 1 0 0 e
  have HR := Lib.hid hR
  have hok : okA ⟨1, 0, 0, e⟩ := by unfold okA; first | (simp; done) | (simp; omega) | omega
  have HOK := Lib.hid hok
  have hG1 := hG.below b0
  clear hR hok
  go_enter Tryd.func9, Tryd.ntmps9
  go_wp2_with fail
  generalize w.alloc (.cells #[.int .i64 1, .int .i64 0, .int .i64 0, .int .i64 e] 26) = w1 at b0 hN hG1 ⊢
  refine (HR.out w1 HOK.out).mono ?_
  rintro x w2 ⟨rfl, b2⟩
  have hN2 := (Only.of_below (S := fun _ => False) b2).blk (fun q => q) hN
  have b02 : Below w.heap.size w w2 := b0.trans (b2.mono b0.size)
  have hG2 := hG1.below b2
  obtain ⟨t0, t1, t2, t3⟩ := an_cells hN2
  clear hN2 hN b0 b2 hG1
  go_wp2_with fail
  have hz : ¬ 9223372036854775807 < 8 + (bst (wE e)).size := by
    have := wE_len e
    rw [bst_size]; omega
  refine (err_word e w2).mono ?_
  rintro x w3 ⟨rfl, b3⟩
  have b03 : Below w.heap.size w w3 := b02.trans (b3.mono b02.size)
  go_wp2_with fail
  go_ret
  refine ⟨?_, b03⟩
  rw [← HS.out]
  exact congrArg _ (ap_out _ _ [114, 101, 102, 117, 115, 101, 100, 32] _ rfl rfl)

set_option maxRecDepth 100000 in
set_option maxHeartbeats 1600000 in
theorem str2 (b : Int) (w : World) (hG : Gl w) (h1 : 1 ≤ b) (h6 : b ≤ 2147483647) :
    Calls Tryd.prog 9 #[.agg #[.int .i64 2, .int .i64 b, .int .i64 0, .int .i64 0]] w fun x w' => x = .returned (sv ([119, 97, 114, 109, 32] ++ Lib.itoa b)) ∧ Below w.heap.size w w' := by
  have b0 : Below w.heap.size w (w.alloc (.cells #[.int .i64 2, .int .i64 b, .int .i64 0, .int .i64 0] 26)) := (Below.refl _ _).alloc (Nat.le_refl _) _
  have hN := heap_alloc_new w (.cells #[.int .i64 2, .int .i64 b, .int .i64 0, .int .i64 0] 26)
  obtain ⟨s, hs⟩ : ∃ s, [119, 97, 114, 109, 32] ++ Lib.itoa b = s := ⟨_, rfl⟩
  have HS := Lib.hid hs
  rw [hs]
  clear hs
  have hR := right_ok 2 b 0 0
  have HR := Lib.hid hR
  have hok : okA ⟨2, b, 0, 0⟩ := by unfold okA; first | (simp; done) | (simp; omega) | omega
  have HOK := Lib.hid hok
  have hG1 := hG.below b0
  clear hR hok
  go_enter Tryd.func9, Tryd.ntmps9
  go_wp2_with fail
  generalize w.alloc (.cells #[.int .i64 2, .int .i64 b, .int .i64 0, .int .i64 0] 26) = w1 at b0 hN hG1 ⊢
  refine (HR.out w1 HOK.out).mono ?_
  rintro x w2 ⟨rfl, b2⟩
  have hN2 := (Only.of_below (S := fun _ => False) b2).blk (fun q => q) hN
  have b02 : Below w.heap.size w w2 := b0.trans (b2.mono b0.size)
  have hG2 := hG1.below b2
  obtain ⟨t0, t1, t2, t3⟩ := an_cells hN2
  clear hN2 hN b0 b2 hG1
  go_wp2_with fail
  have hz : ¬ 9223372036854775807 < 5 + (bst (Lib.itoa b)).size := by
    have := itoa_len b (by omega) (by omega)
    rw [bst_size]; omega
  refine (itoa_any b w2 (by omega) (by omega) hG2).mono ?_
  rintro x w3 ⟨rfl, b3⟩
  have b03 : Below w.heap.size w w3 := b02.trans (b3.mono b02.size)
  go_wp2_with fail
  go_ret
  refine ⟨?_, b03⟩
  rw [← HS.out]
  exact congrArg _ (ap_out _ _ [119, 97, 114, 109, 32] _ rfl rfl)

set_option maxRecDepth 100000 in
set_option maxHeartbeats 1600000 in
theorem str3 (b : Int) (w : World) (hG : Gl w) (h1 : 1 ≤ b) (h6 : b ≤ 2147483647) :
    Calls Tryd.prog 9 #[.agg #[.int .i64 3, .int .i64 b, .int .i64 0, .int .i64 0]] w fun x w' => x = .returned (sv ([99, 111, 108, 100, 32] ++ Lib.itoa b)) ∧ Below w.heap.size w w' := by
  have b0 : Below w.heap.size w (w.alloc (.cells #[.int .i64 3, .int .i64 b, .int .i64 0, .int .i64 0] 26)) := (Below.refl _ _).alloc (Nat.le_refl _) _
  have hN := heap_alloc_new w (.cells #[.int .i64 3, .int .i64 b, .int .i64 0, .int .i64 0] 26)
  obtain ⟨s, hs⟩ : ∃ s, [99, 111, 108, 100, 32] ++ Lib.itoa b = s := ⟨_, rfl⟩
  have HS := Lib.hid hs
  rw [hs]
  clear hs
  have hR := right_ok 3 b 0 0
  have HR := Lib.hid hR
  have hok : okA ⟨3, b, 0, 0⟩ := by unfold okA; first | (simp; done) | (simp; omega) | omega
  have HOK := Lib.hid hok
  have hG1 := hG.below b0
  clear hR hok
  go_enter Tryd.func9, Tryd.ntmps9
  go_wp2_with fail
  generalize w.alloc (.cells #[.int .i64 3, .int .i64 b, .int .i64 0, .int .i64 0] 26) = w1 at b0 hN hG1 ⊢
  refine (HR.out w1 HOK.out).mono ?_
  rintro x w2 ⟨rfl, b2⟩
  have hN2 := (Only.of_below (S := fun _ => False) b2).blk (fun q => q) hN
  have b02 : Below w.heap.size w w2 := b0.trans (b2.mono b0.size)
  have hG2 := hG1.below b2
  obtain ⟨t0, t1, t2, t3⟩ := an_cells hN2
  clear hN2 hN b0 b2 hG1
  go_wp2_with fail
  have hz : ¬ 9223372036854775807 < 5 + (bst (Lib.itoa b)).size := by
    have := itoa_len b (by omega) (by omega)
    rw [bst_size]; omega
  refine (itoa_any b w2 (by omega) (by omega) hG2).mono ?_
  rintro x w3 ⟨rfl, b3⟩
  have b03 : Below w.heap.size w w3 := b02.trans (b3.mono b02.size)
  go_wp2_with fail
  go_ret
  refine ⟨?_, b03⟩
  rw [← HS.out]
  exact congrArg _ (ap_out _ _ [99, 111, 108, 100, 32] _ rfl rfl)

set_option maxRecDepth 100000 in
set_option maxHeartbeats 1600000 in
theorem str4 (y : Int) (w : World) (hG : Gl w) (h1 : 1 ≤ y) (h6 : y ≤ 4) :
    Calls Tryd.prog 9 #[.agg #[.int .i64 4, .int .i64 0, .int .i64 y, .int .i64 0]] w fun x w' => x = .returned (sv ([116, 104, 114, 111, 116, 116, 108, 101, 100, 32] ++ wY y)) ∧ Below w.heap.size w w' := by
  have b0 : Below w.heap.size w (w.alloc (.cells #[.int .i64 4, .int .i64 0, .int .i64 y, .int .i64 0] 26)) := (Below.refl _ _).alloc (Nat.le_refl _) _
  have hN := heap_alloc_new w (.cells #[.int .i64 4, .int .i64 0, .int .i64 y, .int .i64 0] 26)
  obtain ⟨s, hs⟩ : ∃ s, [116, 104, 114, 111, 116, 116, 108, 101, 100, 32] ++ wY y = s := ⟨_, rfl⟩
  have HS := Lib.hid hs
  rw [hs]
  clear hs
  have hR := right_ok 4 0 y 0
  have HR := Lib.hid hR
  have hok : okA ⟨4, 0, y, 0⟩ := by unfold okA; first | (simp; done) | (simp; omega) | omega
  have HOK := Lib.hid hok
  have hG1 := hG.below b0
  clear hR hok
  go_enter Tryd.func9, Tryd.ntmps9
  go_wp2_with fail
  generalize w.alloc (.cells #[.int .i64 4, .int .i64 0, .int .i64 y, .int .i64 0] 26) = w1 at b0 hN hG1 ⊢
  refine (HR.out w1 HOK.out).mono ?_
  rintro x w2 ⟨rfl, b2⟩
  have hN2 := (Only.of_below (S := fun _ => False) b2).blk (fun q => q) hN
  have b02 : Below w.heap.size w w2 := b0.trans (b2.mono b0.size)
  have hG2 := hG1.below b2
  obtain ⟨t0, t1, t2, t3⟩ := an_cells hN2
  clear hN2 hN b0 b2 hG1
  go_wp2_with fail
  have hz : ¬ 9223372036854775807 < 10 + (bst (wY y)).size := by
    have := wY_len y
    rw [bst_size]; omega
  refine (why_any y w2).mono ?_
  rintro x w3 ⟨rfl, rfl⟩
  have b03 := b02
  go_wp2_with fail
  go_ret
  refine ⟨?_, b03⟩
  rw [← HS.out]
  exact congrArg _ (ap_out _ _ [116, 104, 114, 111, 116, 116, 108, 101, 100, 32] _ rfl rfl)

theorem string_ok (k b y e : Int) (w : World) (hG : Gl w) (h : okA ⟨k, b, y, e⟩) :
    Calls Tryd.prog 9 #[.agg #[.int .i64 k, .int .i64 b, .int .i64 y, .int .i64 e]] w fun x w' => x = .returned (sv (txt ⟨k, b, y, e⟩)) ∧ Below w.heap.size w w' := by
  have h' := h
  unfold okA at h
  simp only at h
  rcases h with ⟨rfl, rfl, rfl, rfl⟩ | ⟨rfl, h1, h6, rfl, rfl⟩ | ⟨rfl | rfl, h1, h2, rfl, rfl⟩ | ⟨rfl, h1, h4, rfl, rfl⟩
  · exact (str0 w hG).mono fun x w' q => q
  · exact (str1 e w hG h1 h6).mono fun x w' q => q
  · exact (str2 b w hG h1 h2).mono fun x w' q => q
  · exact (str3 b w hG h1 h2).mono fun x w' q => q
  · exact (str4 y w hG h1 h4).mono fun x w' q => q
theorem string_any (k b y e : Int) (w : World) (hG : Gl w) (s : List UInt8) (h1 : okA ⟨k, b, y, e⟩ → s = txt ⟨k, b, y, e⟩) (h2 : ¬ okA ⟨k, b, y, e⟩ → s = []) :
    Calls Tryd.prog 9 #[.agg #[.int .i64 k, .int .i64 b, .int .i64 y, .int .i64 e]] w fun x w' => x = .returned (sv s) ∧ Below w.heap.size w w' := by
  by_cases h : okA ⟨k, b, y, e⟩
  · rw [h1 h]; exact string_ok k b y e w hG h
  · rw [h2 h]; exact str_no k b y e w hG h

end Go.Proofs.YtkfhgdnlieaedaaDoor.W
