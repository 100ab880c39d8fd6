/- A contract of the law's head. Made by mk_reg.py. -/
import Derived.Test.YtkfhgdnlieaedaaDoorReF
namespace Go.Proofs.YtkfhgdnlieaedaaDoor.W
open Go.RowKit

theorem warm3 : bst (txt ⟨2, 3, 0, 0⟩) = ⟨#[119, 97, 114, 109, 32, 51]⟩ := by
  have h : Lib.itoa 3 = [51] := by
    have := itoa_nat 3
    rw [show ((3 : Nat) : Int) = 3 from rfl] at this
    rw [this]
    unfold Lib.decDigits
    decide
  unfold txt
  rw [if_neg (by decide), if_pos rfl, h]; rfl
set_option maxRecDepth 100000 in
set_option maxHeartbeats 1600000 in
theorem head_any (w : World) (hG : Gl w) : Calls Tryd.prog 7 #[] w fun x w' => x = .returned (.bool true) ∧ Below w.heap.size w w' := by
  have hp := parse_txt 2 3 0 0 w hG (by unfold okA; simp)
  rw [warm3] at hp
  have HP := Lib.hid hp
  have hd : ((bst (txt ⟨4, 0, 4, 0⟩)).toList == [116, 104, 114, 111, 116, 116, 108, 101, 100, 32, 114, 111, 111, 109]) = true := by rw [sv_lit]; decide
  clear hp
  go_enter Tryd.func7, Tryd.ntmps7
  go_wp2_with fail
  refine HP.out.mono ?_
  rintro x w2 ⟨rfl, b2⟩
  have HM := Lib.hid (heap_alloc_new w2 (.cells #[.int .i64 0, .int .i64 0, .int .i64 0, .int .i64 0] 26))
  have b3 : Below w.heap.size w (w2.alloc (.cells #[.int .i64 0, .int .i64 0, .int .i64 0, .int .i64 0] 26)) := b2.alloc b2.size _
  have HL := Lib.hid b2.size
  clear HP b2
  go_wp2_with (with_reducible refine wpList_store_an rfl (.tmp 1) (.tmp 5) rfl w2.heap.size 2 3 0 0 rfl rfl 0 0 0 0 HM ?_; intro w4 HG4 hg4; obtain ⟨t0, t1, t2, t3⟩ := an_cells (Hid.out HG4))
  have b4 : Below w.heap.size w w4 := below_row b3 HL.out hg4 b3.size
  refine (string_ok 4 0 4 0 w4 (hG.below b4) (by unfold okA; simp)).mono ?_
  rintro x w5 ⟨rfl, b5⟩
  have b05 : Below w.heap.size w w5 := b4.trans (b5.mono b4.size)
  go_wp2_with fail
  go_ret
  exact ⟨rfl, b05⟩

end Go.Proofs.YtkfhgdnlieaedaaDoor.W
