/- Walks of ReplyTexts and ReplyApart. Made by mk_rei.py. -/
import Derived.Test.YtkfhgdnlieaedaaDoorReG
import Derived.Test.YtkfhgdnlieaedaaDoorReH
import Derived.Test.YtkfhgdnlieaedaaDoorReL
namespace Go.Proofs.YtkfhgdnlieaedaaDoor.W
open Go.RowKit

set_option maxRecDepth 100000 in
set_option maxHeartbeats 1600000 in
theorem texts_ok (k b y e : Int) (w : World) (hG : Gl w) (s : List UInt8)
    (HT : Hid (∀ w, Gl w → Calls Tryd.prog 8 #[.agg #[.int .i64 k, .int .i64 b, .int .i64 y, .int .i64 e]] w fun x w' => x = .returned (sv s) ∧ Below w.heap.size w w'))
    (HS : Hid (∀ w, Gl w → Calls Tryd.prog 9 #[.agg #[.int .i64 k, .int .i64 b, .int .i64 y, .int .i64 e]] w fun x w' => x = .returned (sv s) ∧ Below w.heap.size w w'))
    (HR : Hid (∀ w, Gl w → Calls Tryd.prog 10 #[.agg #[.int .i64 k, .int .i64 b, .int .i64 y, .int .i64 e]] w fun x w' => x = .returned (.bool true) ∧ Below w.heap.size w w'))
    (HP : Hid (∀ w, Gl w → Calls Tryd.prog 11 #[.string (bst s)] w fun x w' => x = .returned (.tuple #[.agg #[.int .i64 k, .int .i64 b, .int .i64 y, .int .i64 e], .int .i64 0]) ∧ Below w.heap.size w w'))
    (hE : ((bst s).toList == []) = false) :
    Calls Tryd.prog 3 #[.agg #[.int .i64 k, .int .i64 b, .int .i64 y, .int .i64 e]] w fun x w' => x = .returned (.bool true) ∧ Below w.heap.size w w' := by
  have c1 : Below w.heap.size w (w.alloc (.cells #[.int .i64 k, .int .i64 b, .int .i64 y, .int .i64 e] 26)) := (Below.refl _ _).alloc (Nat.le_refl _) _
  have N1 := heap_alloc_new w (.cells #[.int .i64 k, .int .i64 b, .int .i64 y, .int .i64 e] 26)
  have G1 := hG.below c1
  go_enter Tryd.func3, Tryd.ntmps3
  go_wp2_with fail
  generalize w.alloc (.cells #[.int .i64 k, .int .i64 b, .int .i64 y, .int .i64 e] 26) = w1 at c1 N1 G1 ⊢
  refine (head_any w1 G1).mono ?_
  rintro x w2 ⟨rfl, b2⟩
  have c2 : Below w.heap.size w w2 := c1.trans (b2.mono c1.size)
  have G2 := G1.below b2
  have N2 := blk_stays b2 N1
  obtain ⟨p0, p1, p2, p3⟩ := an_cells N2
  go_wp2_with fail
  refine (HT.out w2 G2).mono ?_
  rintro x w3 ⟨rfl, b3⟩
  have c3 : Below w.heap.size w w3 := c2.trans (b3.mono c2.size)
  have G3 := G2.below b3
  have N3 := blk_stays b3 N2
  obtain ⟨q0, q1, q2, q3⟩ := an_cells N3
  clear p0 p1 p2 p3
  go_wp2_with fail
  refine (HS.out w3 G3).mono ?_
  rintro x w4 ⟨rfl, b4⟩
  have c4 : Below w.heap.size w w4 := c3.trans (b4.mono c3.size)
  have G4 := G3.below b4
  have N4 := blk_stays b4 N3
  obtain ⟨p0, p1, p2, p3⟩ := an_cells N4
  clear q0 q1 q2 q3
  go_wp2_with fail
  refine (HR.out w4 G4).mono ?_
  rintro x w5 ⟨rfl, b5⟩
  have c5 : Below w.heap.size w w5 := c4.trans (b5.mono c4.size)
  have G5 := G4.below b5
  have N5 := blk_stays b5 N4
  go_wp2_with fail
  refine (HP.out w5 G5).mono ?_
  rintro x w6 ⟨rfl, b6⟩
  have c6 : Below w.heap.size w w6 := c5.trans (b6.mono c5.size)
  have G6 := G5.below b6
  have N6 := blk_stays b6 N5
  have HM := Lib.hid (heap_alloc_new w6 (.cells #[.int .i64 0, .int .i64 0, .int .i64 0, .int .i64 0] 26))
  have b7 : Below w6.heap.size w6 (w6.alloc (.cells #[.int .i64 0, .int .i64 0, .int .i64 0, .int .i64 0] 26)) := (Below.refl _ _).alloc (Nat.le_refl _) _
  have c7 : Below w.heap.size w (w6.alloc (.cells #[.int .i64 0, .int .i64 0, .int .i64 0, .int .i64 0] 26)) := c6.trans (b7.mono c6.size)
  have N7 := Lib.hid (blk_stays b7 N6)
  have LT := Lib.hid (lt_of_blk N6)
  clear p0 p1 p2 p3 b7 N6 c6
  go_wp2_with (with_reducible refine wpList_store_an rfl (.tmp 4) (.tmp 24) rfl w6.heap.size k b y e rfl rfl 0 0 0 0 HM ?_; intro w8 HG8 hg8; obtain ⟨t0, t1, t2, t3⟩ := an_cells (Hid.out HG8); obtain ⟨u0, u1, u2, u3⟩ := an_cells (blk_grown hg8 (Nat.ne_of_lt (Hid.out LT)) (Hid.out N7)))
  have c8 : Below w.heap.size w w8 := below_row c7 (by have := LT.out; have := c1.size; omega) hg8 c7.size
  go_ret
  exact ⟨rfl, c8⟩
set_option maxRecDepth 100000 in
set_option maxHeartbeats 1600000 in
theorem texts_no (k b y e : Int) (w : World) (hG : Gl w) (s : List UInt8)
    (HT : Hid (∀ w, Gl w → Calls Tryd.prog 8 #[.agg #[.int .i64 k, .int .i64 b, .int .i64 y, .int .i64 e]] w fun x w' => x = .returned (sv s) ∧ Below w.heap.size w w'))
    (HS : Hid (∀ w, Gl w → Calls Tryd.prog 9 #[.agg #[.int .i64 k, .int .i64 b, .int .i64 y, .int .i64 e]] w fun x w' => x = .returned (sv s) ∧ Below w.heap.size w w'))
    (HR : Hid (∀ w, Gl w → Calls Tryd.prog 10 #[.agg #[.int .i64 k, .int .i64 b, .int .i64 y, .int .i64 e]] w fun x w' => x = .returned (.bool false) ∧ Below w.heap.size w w'))
    (HP : Hid (∀ w, Gl w → Calls Tryd.prog 11 #[.string (bst s)] w fun x w' => x = .returned (.tuple #[.agg #[.int .i64 0, .int .i64 0, .int .i64 0, .int .i64 0], .int .i64 5]) ∧ Below w.heap.size w w'))
    (hE : ((bst s).toList == []) = true) :
    Calls Tryd.prog 3 #[.agg #[.int .i64 k, .int .i64 b, .int .i64 y, .int .i64 e]] w fun x w' => x = .returned (.bool true) ∧ Below w.heap.size w w' := by
  have c1 : Below w.heap.size w (w.alloc (.cells #[.int .i64 k, .int .i64 b, .int .i64 y, .int .i64 e] 26)) := (Below.refl _ _).alloc (Nat.le_refl _) _
  have N1 := heap_alloc_new w (.cells #[.int .i64 k, .int .i64 b, .int .i64 y, .int .i64 e] 26)
  have G1 := hG.below c1
  go_enter Tryd.func3, Tryd.ntmps3
  go_wp2_with fail
  generalize w.alloc (.cells #[.int .i64 k, .int .i64 b, .int .i64 y, .int .i64 e] 26) = w1 at c1 N1 G1 ⊢
  refine (head_any w1 G1).mono ?_
  rintro x w2 ⟨rfl, b2⟩
  have c2 : Below w.heap.size w w2 := c1.trans (b2.mono c1.size)
  have G2 := G1.below b2
  have N2 := blk_stays b2 N1
  obtain ⟨p0, p1, p2, p3⟩ := an_cells N2
  go_wp2_with fail
  refine (HT.out w2 G2).mono ?_
  rintro x w3 ⟨rfl, b3⟩
  have c3 : Below w.heap.size w w3 := c2.trans (b3.mono c2.size)
  have G3 := G2.below b3
  have N3 := blk_stays b3 N2
  obtain ⟨q0, q1, q2, q3⟩ := an_cells N3
  clear p0 p1 p2 p3
  go_wp2_with fail
  refine (HS.out w3 G3).mono ?_
  rintro x w4 ⟨rfl, b4⟩
  have c4 : Below w.heap.size w w4 := c3.trans (b4.mono c3.size)
  have G4 := G3.below b4
  have N4 := blk_stays b4 N3
  obtain ⟨p0, p1, p2, p3⟩ := an_cells N4
  clear q0 q1 q2 q3
  go_wp2_with fail
  refine (HR.out w4 G4).mono ?_
  rintro x w5 ⟨rfl, b5⟩
  have c5 : Below w.heap.size w w5 := c4.trans (b5.mono c4.size)
  have G5 := G4.below b5
  have N5 := blk_stays b5 N4
  go_wp2_with fail
  refine (HP.out w5 G5).mono ?_
  rintro x w6 ⟨rfl, b6⟩
  have c6 : Below w.heap.size w w6 := c5.trans (b6.mono c5.size)
  have G6 := G5.below b6
  have N6 := blk_stays b6 N5
  have HM := Lib.hid (heap_alloc_new w6 (.cells #[.int .i64 0, .int .i64 0, .int .i64 0, .int .i64 0] 26))
  have b7 : Below w6.heap.size w6 (w6.alloc (.cells #[.int .i64 0, .int .i64 0, .int .i64 0, .int .i64 0] 26)) := (Below.refl _ _).alloc (Nat.le_refl _) _
  have c7 : Below w.heap.size w (w6.alloc (.cells #[.int .i64 0, .int .i64 0, .int .i64 0, .int .i64 0] 26)) := c6.trans (b7.mono c6.size)
  have N7 := Lib.hid (blk_stays b7 N6)
  have LT := Lib.hid (lt_of_blk N6)
  clear p0 p1 p2 p3 b7 N6 c6
  go_wp2_with (with_reducible refine wpList_store_an rfl (.tmp 4) (.tmp 24) rfl w6.heap.size 0 0 0 0 rfl rfl 0 0 0 0 HM ?_; intro w8 HG8 hg8; obtain ⟨t0, t1, t2, t3⟩ := an_cells (Hid.out HG8); obtain ⟨u0, u1, u2, u3⟩ := an_cells (blk_grown hg8 (Nat.ne_of_lt (Hid.out LT)) (Hid.out N7)))
  have c8 : Below w.heap.size w w8 := below_row c7 (by have := LT.out; have := c1.size; omega) hg8 c7.size
  go_ret
  exact ⟨rfl, c8⟩

theorem texts_walk (k b y e : Int) (w : World) (hG : Gl w) : Calls Tryd.prog 3 #[.agg #[.int .i64 k, .int .i64 b, .int .i64 y, .int .i64 e]] w fun x w' => x = .returned (.bool true) ∧ Below w.heap.size w w' := by
  by_cases h : okA ⟨k, b, y, e⟩
  · exact texts_ok k b y e w hG _ (Lib.hid fun w hw => text_ok k b y e w hw h) (Lib.hid fun w hw => string_ok k b y e w hw h) (Lib.hid fun w _ => right_ok k b y e w h) (Lib.hid fun w hw => parse_txt k b y e w hw h) (by rw [sv_lit]; simpa using txt_ne _)
  · exact texts_no k b y e w hG [] (Lib.hid fun w hw => text_no k b y e w h) (Lib.hid fun w hw => str_no k b y e w hw h) (Lib.hid fun w _ => right_no k b y e w h) (Lib.hid fun w hw => parse_fail [] w (by simp) hw (fun q => txt_ne _ q.2)) (by rw [sv_lit]; rfl)

end Go.Proofs.YtkfhgdnlieaedaaDoor.W
