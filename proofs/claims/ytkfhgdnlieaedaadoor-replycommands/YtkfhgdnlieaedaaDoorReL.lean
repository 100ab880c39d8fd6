/- What the listed variables hold when a call begins; a start that fits. -/
import Derived.Test.YtkfhgdnlieaedaaDoorRows
import Derived.Test.YtkfhgdnlieaedaaDoorReA
import Derived.LaidMore
import Derived.LaidHandle
import Derived.LaidLaws
import Derived.MakeChecks
import Derived.Stop.LaidErr
import Derived.Lib.LaidTab
namespace Go.Proofs.YtkfhgdnlieaedaaDoor.W
open Go.RowKit Go.ChangeShapes

theorem lt_of_blk {w : World} {g : Nat} {o : Obj} (h : w.heap[g]? = some o) : g < w.heap.size := by
  rcases Nat.lt_or_ge g w.heap.size with q | q
  · exact q
  · rw [Array.getElem?_eq_none q] at h; cases h
theorem star : "*" ++ "errors.errorString" = "*errors.errorString" := by decide
theorem rowE (u : TypeId) (h : Tryd.prog.typeName? 3 u = some "*errors.errorString") : u = 97 :=
  typeName_ptr_named (nm := "errors.errorString") (by rw [star]; kernel_rfl) (by kernel_rfl) (by decide) u (by rw [star]; exact h)
theorem gSyn : Tryd.prog.globalNamed "strconv.ErrSyntax" = some 2 := by kernel_rfl
theorem gRng : Tryd.prog.globalNamed "strconv.ErrRange" = some 3 := by kernel_rfl
theorem tSyn : (Tryd.prog.globals[2]?).map (·.type) = some 55 := by kernel_rfl
theorem tRng : (Tryd.prog.globals[3]?).map (·.type) = some 55 := by kernel_rfl
theorem tTab : (Tryd.prog.globals[0]?).map (·.type) = some 69 := by kernel_rfl
theorem cE : Tryd.prog.cellsOf 99 = 1 := by kernel_rfl
theorem cS : Tryd.prog.cellsOf 9 = 1 := by kernel_rfl

theorem gl_of_laid {W : World} (h : laidMetH Tryd.prog Rows.replyTextsRow.laid W) : Gl W := by
  rw [MakeChecks.laidMetH_plain _ _ _ (by kernel_rfl)] at h
  have h2 : laidMet Tryd.prog [("internal/strconv.uint64pow10", Rows.laid_internal_strconv_uint64pow10), ("strconv.ErrRange", Rows.laid_strconv_ErrRange), ("strconv.ErrSyntax", Rows.laid_strconv_ErrSyntax)] W := h.tail.tail
  have hT := Lib.tabIs_of_head (k := .u64) (zs := Lib.pow10Tab) gTab tTab Tryd.underlying69 Tryd.underlying59 (by kernel_rfl) (by kernel_rfl) h2
  obtain ⟨a1, s1, v1, _, _, _⟩ := laid_sentinel h2.tail gRng tRng Tryd.underlying55 rowE Tryd.underlying97 Tryd.underlying99 rfl rfl Tryd.underlying9 cE cS
  obtain ⟨a2, s2, v2, _, _, _⟩ := laid_sentinel h2.tail.tail gSyn tSyn Tryd.underlying55 rowE Tryd.underlying97 Tryd.underlying99 rfl rfl Tryd.underlying9 cE cS
  exact ⟨hT, ⟨_, by simpa using World.var?_cell gSyn v2 0, .inr ⟨_, _, rfl⟩⟩, ⟨_, by simpa using World.var?_cell gRng v1 0, .inr ⟨_, _, rfl⟩⟩⟩
theorem door_met (os : Os) (args : Array Value) : laidMetH Tryd.prog Rows.replyTextsRow.laid ((World.doorLaid Tryd.prog 400 os).forCall (fun _ _ => 0) ⟨#[], args, []⟩).memory :=
  laidMetH_of_parts3 (fuel := 8) (laidMet_of_run' 8 (by kernel_rfl) (by kernel_rfl)) (by kernel_rfl) (by kernel_rfl)

end Go.Proofs.YtkfhgdnlieaedaaDoor.W
