/- Contracts of the flags, and the document's example of package wire. -/
import Derived.Test.YtkfhgdnlieaedaaWireD
namespace Go.Proofs.Ytkfhgdnlieaedaa.W
open Go.RowKit
theorem enc_300 : enc 300 = [172, 2] := by rw [enc_big (by omega), enc_small (by omega)]
theorem own_cells {w : World} {base : Nat} {e : TypeId} {g n cap : Nat} {bs : List Nat} (h : w.ownsRow base e 1 (.slice (some ⟨g, 0, none⟩) n cap) n (bs.map bv)) (j x : Nat) (hx : bs[j]? = some x) : w.cell? ⟨g, j, none⟩ = some (bv x) := by
  have := h.cells (g := g) rfl j (bv x) (by rw [List.getElem?_map, hx]; rfl)
  rwa [add_lit0] at this
end Go.Proofs.Ytkfhgdnlieaedaa.W
