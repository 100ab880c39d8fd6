/- A struct of a bool and three ints that came in by value: whatever the program. -/
import Derived.Test.YtkfhgdnlieaedaaDoorActs
import Derived.Lib.SmallJoins
namespace Go.Proofs.YtkfhgdnlieaedaaDoor.W
open Go.RowKit Go.ChangeShapes Go.WideShapes Go.ChangeAt Go.Joins

theorem open_b3 {H : Type} {enc : TypeId × Value → H} {P : Program} {w : World} {base : Nat} {spare : Nat → Bool} {held : Bool} {t : TypeId} {fs : Array Field} {b0 : Nat} {r : Reach} {v : Value} {d : DataW H} {p : List MemPlace}
    (ht : P.underlying t = some (.struct fs)) (hN : P.cellsOf t = 4) (hfs : fs.size = 4)
    (h0 : ∀ f : Field, fs[0]? = some f → P.underlying f.type = some .bool ∧ f.offset = 0 ∧ P.cellsOf f.type = 1)
    (hf : ∀ (i : Nat) (f : Field), fs[i + 1]? = some f → P.underlying f.type = some (.int .i64) ∧ f.offset = i + 1 ∧ P.cellsOf f.type = 1) (hv : Value.okWide P w r b0 t v) (h : DataW.Trod enc P w base spare held t v d p) :
    ∃ (q : Bool) (x y z : Int), v = .agg #[.bool q, .int .i64 x, .int .i64 y, .int .i64 z] ∧ (Lit.int .i64 x).wf = true ∧ (Lit.int .i64 y).wf = true ∧ (Lit.int .i64 z).wf = true := by
  obtain ⟨cs, rfl, hsz⟩ := okWide_struct ht hv
  obtain ⟨fuel, hx⟩ := h
  obtain ⟨xs, n', _, _, g3, g4, g5⟩ := DataW.trod_struct ht hx
  have hcs : cs.size = 4 := hsz.trans hN
  have key : ∀ j, j < 3 → ∃ z, cs[j + 1]? = some (.int .i64 z) ∧ (Lit.int .i64 z).wf = true := by
    intro j hj
    obtain ⟨f, hff⟩ : ∃ f, fs[j + 1]? = some f := ⟨_, Array.getElem?_eq_getElem (by omega)⟩
    obtain ⟨u1, u2, u3⟩ := hf _ _ hff
    have g6 := g5 _ _ hff
    rw [List.getElem?_eq_getElem (by omega)] at g6
    obtain ⟨z, g7, _, g8⟩ := DataW.trod_int u1 g6
    rw [u2, u3] at g7
    refine ⟨z, ?_, g8⟩
    have k3 := congrArg (fun l => l[0]?) g7
    simpa [Value.cells, List.getElem?_take, List.getElem?_drop] using k3
  have k0 : ∃ q, cs[0]? = some (.bool q) := by
    obtain ⟨f, hff⟩ : ∃ f, fs[0]? = some f := ⟨_, Array.getElem?_eq_getElem (by omega)⟩
    obtain ⟨u1, u2, u3⟩ := h0 _ hff
    have g6 := g5 _ _ hff
    rw [List.getElem?_eq_getElem (by omega)] at g6
    obtain ⟨q, g7, _⟩ := DataW.trod_bool u1 g6
    rw [u2, u3] at g7
    refine ⟨q, ?_⟩
    have k3 := congrArg (fun l => l[0]?) g7
    simpa [Value.cells, List.getElem?_take, List.getElem?_drop] using k3
  obtain ⟨q, e0⟩ := k0
  obtain ⟨x, e1, w1⟩ := key 0 (by omega)
  obtain ⟨y, e2, w2⟩ := key 1 (by omega)
  obtain ⟨z, e3, w3⟩ := key 2 (by omega)
  refine ⟨q, x, y, z, ?_, w1, w2, w3⟩
  congr 1
  apply Array.ext_getElem?
  intro j
  rcases Nat.lt_or_ge j 4 with hj | hj
  · have : j = 0 ∨ j = 1 ∨ j = 2 ∨ j = 3 := by omega
    rcases this with rfl | rfl | rfl | rfl
    · rw [e0]; rfl
    · rw [e1]; rfl
    · rw [e2]; rfl
    · rw [e3]; rfl
  · rw [Array.getElem?_eq_none (by omega), Array.getElem?_eq_none (by simpa using hj)]
end Go.Proofs.YtkfhgdnlieaedaaDoor.W
