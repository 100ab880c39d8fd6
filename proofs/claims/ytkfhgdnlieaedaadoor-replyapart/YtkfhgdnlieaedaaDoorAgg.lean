/- A struct of ints that came in by value: whatever the program. -/
import Derived.Test.YtkfhgdnlieaedaaDoorActs
import Derived.Lib.SmallJoins
namespace Go.Proofs.YtkfhgdnlieaedaaDoor.W
open Go.RowKit Go.ChangeShapes Go.WideShapes Go.ChangeAt Go.Joins

theorem open_aggN {H : Type} {enc : TypeId × Value → H} {P : Program} {w : World} {base : Nat} {spare : Nat → Bool} {held : Bool} {t : TypeId} {fs : Array Field} {N b0 : Nat} {r : Reach} {v : Value} {d : DataW H} {p : List MemPlace}
    (ht : P.underlying t = some (.struct fs)) (hN : P.cellsOf t = N) (hfs : fs.size = N)
    (hf : ∀ (i : Nat) (f : Field), fs[i]? = some f → P.underlying f.type = some (.int .i64) ∧ f.offset = i ∧ P.cellsOf f.type = 1) (hv : Value.okWide P w r b0 t v) (h : DataW.Trod enc P w base spare held t v d p) :
    ∃ Z : Nat → Int, v = .agg (zs Z N).toArray ∧ ∀ j, j < N → (Lit.int .i64 (Z j)).wf = true := by
  obtain ⟨cs, rfl, hsz⟩ := okWide_struct ht hv
  obtain ⟨fuel, hx⟩ := h
  obtain ⟨xs, n', _, _, g3, g4, g5⟩ := DataW.trod_struct ht hx
  have hcs : cs.size = N := hsz.trans hN
  have key : ∀ j, j < N → ∃ z, cs[j]? = some (.int .i64 z) ∧ (Lit.int .i64 z).wf = true := by
    intro j hj
    obtain ⟨f, hff⟩ : ∃ f, fs[j]? = some f := ⟨_, Array.getElem?_eq_getElem (by omega)⟩
    obtain ⟨u1, u2, u3⟩ := hf _ _ hff
    have g6 := g5 _ _ hff
    rw [List.getElem?_eq_getElem (by omega)] at g6
    obtain ⟨z, g7, _, g8⟩ := DataW.trod_int u1 g6
    rw [u2, u3] at g7
    refine ⟨z, ?_, g8⟩
    have k3 := congrArg (fun l => l[0]?) g7
    simpa [Value.cells, List.getElem?_take, List.getElem?_drop] using k3
  obtain ⟨Z, hZ⟩ := Go.Deep.choose_lt key
  refine ⟨Z, ?_, fun j hj => (hZ j hj).2⟩
  congr 1
  apply Array.ext_getElem?
  intro j
  rcases Nat.lt_or_ge j N with q | q
  · rw [(hZ j q).1]
    simp [zs_at Z q]
  · rw [Array.getElem?_eq_none (by omega), Array.getElem?_eq_none (by simpa using q)]
end Go.Proofs.YtkfhgdnlieaedaaDoor.W
