/- A contract of Parse. Made by mk_ref.py. -/
import Derived.Test.YtkfhgdnlieaedaaDoorReE
import Derived.Laws.ResultCell
namespace Go.Proofs.YtkfhgdnlieaedaaDoor.W
open Go.RowKit

theorem ret_an2 {g : Nat} {k b y e : Int} {w : World} {fn : Func} {t u : Tmp} {tmps : Array Value} {v : Value} (hf : fn.results = #[.cell t 26, .tmp u]) (ht : tmps.getD t undef = .pointer (some ⟨g, 0, none⟩)) (hv : tmps.getD u undef = v)
    (HG : Hid (w.heap[g]? = some (.cells #[.int .i64 k, .int .i64 b, .int .i64 y, .int .i64 e] 26 (0, 0)))) : (results fn tmps).run Tryd.prog w = .ok (.tuple #[.agg #[.int .i64 k, .int .i64 b, .int .i64 y, .int .i64 e], v]) w := by
  rw [results_cell_tmp hf, ht, hv]
  simp [asAddr, run_loadVar_row w g _ _ _ _ _ HG.out Tryd.underlying26 rfl sizeA, Result.andThen]
theorem blk_stays {w w' : World} {g : Nat} {o : Obj} (h : Below w.heap.size w w') (hg : w.heap[g]? = some o) : w'.heap[g]? = some o := (Only.of_below (S := fun _ => False) h).blk (fun q => q) hg
theorem blk_grown {w w' : World} {g g' : Nat} {o : Obj} (h : w.grownBy w' (some g')) (hne : g ≠ g') (hg : w.heap[g]? = some o) : w'.heap[g]? = some o := by
  have hlt : g < w.heap.size := by
    rcases Nat.lt_or_ge g w.heap.size with q | q
    · exact q
    · rw [Array.getElem?_eq_none q] at hg; cases hg
  obtain ⟨_, _, _, _, g5⟩ := h
  rw [g5 g hlt (by intro q; exact hne (by simpa using q))]; exact hg

set_option maxRecDepth 100000 in
set_option maxHeartbeats 1600000 in
theorem parse_no (l : List UInt8) (w : World) (hl : l.length ≤ 1000000000) (hG : Gl w) (k b y e : Int) (ha : gs l = ⟨k, b, y, e⟩) (hok : ¬ okA ⟨k, b, y, e⟩) :
    Calls Tryd.prog 11 #[.string (bst l)] w fun x w' => x = .returned (.tuple #[.agg #[.int .i64 0, .int .i64 0, .int .i64 0, .int .i64 0], .int .i64 5]) ∧ Below w.heap.size w w' := by
  have b0 : Below w.heap.size w (w.alloc (.cells #[.int .i64 0, .int .i64 0, .int .i64 0, .int .i64 0] 26)) := (Below.refl _ _).alloc (Nat.le_refl _) _
  have hN := heap_alloc_new w (.cells #[.int .i64 0, .int .i64 0, .int .i64 0, .int .i64 0] 26)
  have hG0 := hG.below b0
  have HA := Lib.hid ha
  have HOK := Lib.hid hok
  clear ha hok
  go_enter Tryd.func11, Tryd.ntmps11
  go_wp2_with fail
  generalize w.alloc (.cells #[.int .i64 0, .int .i64 0, .int .i64 0, .int .i64 0] 26) = w1 at b0 hN hG0 ⊢
  refine (guess_any l w1 hl hG0).mono ?_
  rintro x w2 ⟨rfl, b2⟩
  rw [HA.out]
  have hN2 := blk_stays b2 hN
  have b02 : Below w.heap.size w w2 := b0.trans (b2.mono b0.size)
  have hG2 := hG0.below b2
  have lt2 : w.heap.size < w2.heap.size := by
    rcases Nat.lt_or_ge w.heap.size w2.heap.size with q | q
    · exact q
    · rw [Array.getElem?_eq_none q] at hN2; cases hN2
  have b3 : Below w2.heap.size w2 (w2.alloc (.cells #[.int .i64 0, .int .i64 0, .int .i64 0, .int .i64 0] 26)) := (Below.refl _ _).alloc (Nat.le_refl _) _
  have HM := Lib.hid (heap_alloc_new w2 (.cells #[.int .i64 0, .int .i64 0, .int .i64 0, .int .i64 0] 26))
  have hN3 := Lib.hid (blk_stays b3 hN2)
  have b03 : Below w.heap.size w (w2.alloc (.cells #[.int .i64 0, .int .i64 0, .int .i64 0, .int .i64 0] 26)) := b02.trans (b3.mono b02.size)
  have L2 := Lib.hid lt2
  have hG3 := hG2.below b3
  clear b0 hN hG0 b2 hN2 hG2 lt2 b3
  go_wp2_with (with_reducible refine wpList_store_an rfl (.tmp 4) (.tmp 6) rfl w2.heap.size k b y e rfl rfl 0 0 0 0 HM ?_; intro w4 HG4 hg4; obtain ⟨t0, t1, t2, t3⟩ := an_cells (Hid.out HG4))
  have hN4 := blk_grown hg4 (by have := L2.out; omega) hN3.out
  have b04 : Below w.heap.size w w4 := below_row b03 (by have := L2.out; omega) hg4 b03.size
  have hG4 : Gl w4 := hG.below b04
  clear t0 t1 t2 t3
  refine (right_no k b y e w4 HOK.out).mono ?_
  rintro x w5 ⟨rfl, b5⟩
  have hN5 := Lib.hid (blk_stays b5 hN4)
  have HG5 := blk_stays b5 HG4.out
  have b05 : Below w.heap.size w w5 := b04.trans (b5.mono b04.size)
  have hG5 := hG4.below b5
  obtain ⟨t0, t1, t2, t3⟩ := an_cells HG5
  clear HG5
  go_wp2_with (with_reducible refine wpList_store_an rfl (.tmp 2) (.tmp 16) rfl w.heap.size 0 0 0 0 rfl rfl 0 0 0 0 hN5 ?_; intro w9 HG9 hg9)
  refine bodyPost_ret (ret_an2 (fn := Tryd.f11) rfl rfl rfl HG9) rfl ⟨rfl, below_row b05 (Nat.le_refl _) hg9 b05.size⟩

set_option maxRecDepth 100000 in
set_option maxHeartbeats 1600000 in
theorem parse_diff (l : List UInt8) (w : World) (hl : l.length ≤ 1000000000) (hG : Gl w) (k b y e : Int) (ha : gs l = ⟨k, b, y, e⟩) (hok : okA ⟨k, b, y, e⟩) (hne : txt ⟨k, b, y, e⟩ ≠ l) :
    Calls Tryd.prog 11 #[.string (bst l)] w fun x w' => x = .returned (.tuple #[.agg #[.int .i64 0, .int .i64 0, .int .i64 0, .int .i64 0], .int .i64 5]) ∧ Below w.heap.size w w' := by
  have b0 : Below w.heap.size w (w.alloc (.cells #[.int .i64 0, .int .i64 0, .int .i64 0, .int .i64 0] 26)) := (Below.refl _ _).alloc (Nat.le_refl _) _
  have hN := heap_alloc_new w (.cells #[.int .i64 0, .int .i64 0, .int .i64 0, .int .i64 0] 26)
  have hG0 := hG.below b0
  have HA := Lib.hid ha
  have HOK := Lib.hid hok
  have hd : ((bst (txt ⟨k, b, y, e⟩)).toList == (bst l).toList) = false := by rw [sv_eq]; simpa using hne
  clear hne
  clear ha hok
  go_enter Tryd.func11, Tryd.ntmps11
  go_wp2_with fail
  generalize w.alloc (.cells #[.int .i64 0, .int .i64 0, .int .i64 0, .int .i64 0] 26) = w1 at b0 hN hG0 ⊢
  refine (guess_any l w1 hl hG0).mono ?_
  rintro x w2 ⟨rfl, b2⟩
  rw [HA.out]
  have hN2 := blk_stays b2 hN
  have b02 : Below w.heap.size w w2 := b0.trans (b2.mono b0.size)
  have hG2 := hG0.below b2
  have lt2 : w.heap.size < w2.heap.size := by
    rcases Nat.lt_or_ge w.heap.size w2.heap.size with q | q
    · exact q
    · rw [Array.getElem?_eq_none q] at hN2; cases hN2
  have b3 : Below w2.heap.size w2 (w2.alloc (.cells #[.int .i64 0, .int .i64 0, .int .i64 0, .int .i64 0] 26)) := (Below.refl _ _).alloc (Nat.le_refl _) _
  have HM := Lib.hid (heap_alloc_new w2 (.cells #[.int .i64 0, .int .i64 0, .int .i64 0, .int .i64 0] 26))
  have hN3 := Lib.hid (blk_stays b3 hN2)
  have b03 : Below w.heap.size w (w2.alloc (.cells #[.int .i64 0, .int .i64 0, .int .i64 0, .int .i64 0] 26)) := b02.trans (b3.mono b02.size)
  have L2 := Lib.hid lt2
  have hG3 := hG2.below b3
  clear b0 hN hG0 b2 hN2 hG2 lt2 b3
  go_wp2_with (with_reducible refine wpList_store_an rfl (.tmp 4) (.tmp 6) rfl w2.heap.size k b y e rfl rfl 0 0 0 0 HM ?_; intro w4 HG4 hg4; obtain ⟨t0, t1, t2, t3⟩ := an_cells (Hid.out HG4))
  have hN4 := blk_grown hg4 (by have := L2.out; omega) hN3.out
  have b04 : Below w.heap.size w w4 := below_row b03 (by have := L2.out; omega) hg4 b03.size
  have hG4 : Gl w4 := hG.below b04
  clear t0 t1 t2 t3
  refine (right_ok k b y e w4 HOK.out).mono ?_
  rintro x w5 ⟨rfl, b5⟩
  have hN5 := Lib.hid (blk_stays b5 hN4)
  have HG5 := blk_stays b5 HG4.out
  have b05 : Below w.heap.size w w5 := b04.trans (b5.mono b04.size)
  have hG5 := hG4.below b5
  obtain ⟨t0, t1, t2, t3⟩ := an_cells HG5
  go_wp2_with fail
  refine (string_ok k b y e w5 hG5 HOK.out).mono ?_
  rintro x w6 ⟨rfl, b6⟩
  have hN6 := Lib.hid (blk_stays b6 hN5.out)
  have HG6 := blk_stays b6 HG5
  have b06 : Below w.heap.size w w6 := b05.trans (b6.mono b05.size)
  obtain ⟨s0, s1, s2, s3⟩ := an_cells HG6
  clear t0 t1 t2 t3 HG5 HG6
  go_wp2_with (with_reducible refine wpList_store_an rfl (.tmp 2) (.tmp 16) rfl w.heap.size 0 0 0 0 rfl rfl 0 0 0 0 hN6 ?_; intro w9 HG9 hg9)
  refine bodyPost_ret (ret_an2 (fn := Tryd.f11) rfl rfl rfl HG9) rfl ⟨rfl, below_row b06 (Nat.le_refl _) hg9 b06.size⟩

set_option maxRecDepth 100000 in
set_option maxHeartbeats 1600000 in
theorem parse_yes (l : List UInt8) (w : World) (hl : l.length ≤ 1000000000) (hG : Gl w) (k b y e : Int) (ha : gs l = ⟨k, b, y, e⟩) (hok : okA ⟨k, b, y, e⟩) (heq : txt ⟨k, b, y, e⟩ = l) :
    Calls Tryd.prog 11 #[.string (bst l)] w fun x w' => x = .returned (.tuple #[.agg #[.int .i64 k, .int .i64 b, .int .i64 y, .int .i64 e], .int .i64 0]) ∧ Below w.heap.size w w' := by
  have b0 : Below w.heap.size w (w.alloc (.cells #[.int .i64 0, .int .i64 0, .int .i64 0, .int .i64 0] 26)) := (Below.refl _ _).alloc (Nat.le_refl _) _
  have hN := heap_alloc_new w (.cells #[.int .i64 0, .int .i64 0, .int .i64 0, .int .i64 0] 26)
  have hG0 := hG.below b0
  have HA := Lib.hid ha
  have HOK := Lib.hid hok
  have hd : ((bst (txt ⟨k, b, y, e⟩)).toList == (bst l).toList) = true := by rw [sv_eq]; simpa using heq
  clear heq
  clear ha hok
  go_enter Tryd.func11, Tryd.ntmps11
  go_wp2_with fail
  generalize w.alloc (.cells #[.int .i64 0, .int .i64 0, .int .i64 0, .int .i64 0] 26) = w1 at b0 hN hG0 ⊢
  refine (guess_any l w1 hl hG0).mono ?_
  rintro x w2 ⟨rfl, b2⟩
  rw [HA.out]
  have hN2 := blk_stays b2 hN
  have b02 : Below w.heap.size w w2 := b0.trans (b2.mono b0.size)
  have hG2 := hG0.below b2
  have lt2 : w.heap.size < w2.heap.size := by
    rcases Nat.lt_or_ge w.heap.size w2.heap.size with q | q
    · exact q
    · rw [Array.getElem?_eq_none q] at hN2; cases hN2
  have b3 : Below w2.heap.size w2 (w2.alloc (.cells #[.int .i64 0, .int .i64 0, .int .i64 0, .int .i64 0] 26)) := (Below.refl _ _).alloc (Nat.le_refl _) _
  have HM := Lib.hid (heap_alloc_new w2 (.cells #[.int .i64 0, .int .i64 0, .int .i64 0, .int .i64 0] 26))
  have hN3 := Lib.hid (blk_stays b3 hN2)
  have b03 : Below w.heap.size w (w2.alloc (.cells #[.int .i64 0, .int .i64 0, .int .i64 0, .int .i64 0] 26)) := b02.trans (b3.mono b02.size)
  have L2 := Lib.hid lt2
  have hG3 := hG2.below b3
  clear b0 hN hG0 b2 hN2 hG2 lt2 b3
  go_wp2_with (with_reducible refine wpList_store_an rfl (.tmp 4) (.tmp 6) rfl w2.heap.size k b y e rfl rfl 0 0 0 0 HM ?_; intro w4 HG4 hg4; obtain ⟨t0, t1, t2, t3⟩ := an_cells (Hid.out HG4))
  have hN4 := blk_grown hg4 (by have := L2.out; omega) hN3.out
  have b04 : Below w.heap.size w w4 := below_row b03 (by have := L2.out; omega) hg4 b03.size
  have hG4 : Gl w4 := hG.below b04
  clear t0 t1 t2 t3
  refine (right_ok k b y e w4 HOK.out).mono ?_
  rintro x w5 ⟨rfl, b5⟩
  have hN5 := Lib.hid (blk_stays b5 hN4)
  have HG5 := blk_stays b5 HG4.out
  have b05 : Below w.heap.size w w5 := b04.trans (b5.mono b04.size)
  have hG5 := hG4.below b5
  obtain ⟨t0, t1, t2, t3⟩ := an_cells HG5
  go_wp2_with fail
  refine (string_ok k b y e w5 hG5 HOK.out).mono ?_
  rintro x w6 ⟨rfl, b6⟩
  have hN6 := Lib.hid (blk_stays b6 hN5.out)
  have HG6 := blk_stays b6 HG5
  have b06 : Below w.heap.size w w6 := b05.trans (b6.mono b05.size)
  obtain ⟨s0, s1, s2, s3⟩ := an_cells HG6
  clear t0 t1 t2 t3 HG5 HG6
  go_wp2_with (with_reducible refine wpList_store_an rfl (.tmp 2) (.tmp 17) rfl w.heap.size k b y e rfl rfl 0 0 0 0 hN6 ?_; intro w9 HG9 hg9)
  refine bodyPost_ret (ret_an2 (fn := Tryd.f11) rfl rfl rfl HG9) rfl ⟨rfl, below_row b06 (Nat.le_refl _) hg9 b06.size⟩

theorem txt_len9 {a : An} (h : okA a) : (txt a).length ≤ 1000000000 := by have := txt_len h; omega
/-- The words of an answer. -/
theorem parse_txt (k b y e : Int) (w : World) (hG : Gl w) (h : okA ⟨k, b, y, e⟩) : Calls Tryd.prog 11 #[.string (bst (txt ⟨k, b, y, e⟩))] w fun x w' => x = .returned (.tuple #[.agg #[.int .i64 k, .int .i64 b, .int .i64 y, .int .i64 e], .int .i64 0]) ∧ Below w.heap.size w w' :=
  parse_yes _ w (txt_len9 h) hG k b y e (gs_txt h) h rfl
/-- Words that are no answer's. -/
theorem parse_fail (l : List UInt8) (w : World) (hl : l.length ≤ 1000000000) (hG : Gl w) (h : ¬ (okA (gs l) ∧ txt (gs l) = l)) : Calls Tryd.prog 11 #[.string (bst l)] w fun x w' => x = .returned (.tuple #[.agg #[.int .i64 0, .int .i64 0, .int .i64 0, .int .i64 0], .int .i64 5]) ∧ Below w.heap.size w w' := by
  obtain ⟨⟨k, b, y, e⟩, ha⟩ : ∃ a, gs l = a := ⟨_, rfl⟩
  rw [ha] at h
  by_cases hok : okA ⟨k, b, y, e⟩
  · exact parse_diff l w hl hG k b y e ha hok (fun q => h ⟨hok, q⟩)
  · exact parse_no l w hl hG k b y e ha hok

end Go.Proofs.YtkfhgdnlieaedaaDoor.W
