/- A slice of structs of ints that came in, as numbers one behind the other: whatever the program. -/
import Derived.Test.YtgpookphacdgoaaBlk
import Derived.Deep.Slices
import Derived.ChangeOld
import Derived.ChangeArms
namespace Go.Proofs.Ytgpookphacdgoaa.W
open Go.RowKit

/-- The first m numbers of Z. -/
abbrev zs (Z : Nat → Int) (m : Nat) : List Value := (List.range m).map (fun j => Value.int .i64 (Z j))
theorem zs_at (Z : Nat → Int) {m j : Nat} (h : j < m) : (zs Z m)[j]? = some (.int .i64 (Z j)) := by
  rw [List.getElem?_map, List.getElem?_range h]; rfl
theorem Lies.num {w : World} {B m : Nat} {A : Option Addr} {Z : Nat → Int} (h : Lies w B A (zs Z m)) {j : Nat} (hj : j < m) : ∃ ad, A = some ad ∧ ad.block < B ∧ ∀ i, i < m → w.cell? (ad.add i) = some (.int .i64 (Z i)) := by
  obtain ⟨ad, h1, h2, h3⟩ := h.some_ (by simp; omega)
  exact ⟨ad, h1, h2, fun i hi => h3 i _ (zs_at Z hi)⟩

/-- A cell of a struct in the middle of a slice, in the walk's own form. -/
theorem cell_in {w : World} {ad : Addr} {i c : Nat} {v : Value} (h : w.cell? (ad.add (i + (c + 1))) = some v) : w.cell? ⟨(ad.add i).block, (ad.add i).off + (c + 1), none⟩ = some v := by
  rw [← add_two] at h
  simpa [Addr.add] using h

theorem open_nums {H : Type} {enc : TypeId × Value → H} {P : Program} {w : World} {base : Nat} {spare : Nat → Bool} {held : Bool} {t e : TypeId} {fs : Array Field} {N fuel : Nat} {cs : List Value} {x : DataW H × List MemPlace}
    (ht : P.underlying t = some (.slice e)) (he : P.underlying e = some (.struct fs)) (hN : P.cellsOf e = N) (hfs : fs.size = N) (hN0 : 0 < N)
    (hf : ∀ (i : Nat) (f : Field), fs[i]? = some f → P.underlying f.type = some (.int .i64) ∧ f.offset = i ∧ P.cellsOf f.type = 1) (h : DataW.trod enc P w base spare held fuel t cs = some x) :
    cs = [.slice none 0 0] ∨ ∃ (a : Addr) (len cap : Nat) (Z : Nat → Int), cs = [.slice (some a) len cap] ∧ len ≤ cap ∧ cap ≤ maxLen ∧ Lies w w.heap.size (some a) (zs Z (len * N)) ∧ ∀ j, j < len * N → (Lit.int .i64 (Z j)).wf = true := by
  rcases Go.Deep.open_slice ht h with ⟨h0, _⟩ | ⟨a, len, cap, m, n, D, Pl, h1, _, h3, h4, h5, _, h7⟩
  · exact Or.inl h0
  right
  have hml : len ≤ m := by rw [h5]; split <;> omega
  have key : ∀ j, j < len * N → ∃ z, w.cell? (a.add j) = some (.int .i64 z) ∧ (Lit.int .i64 z).wf = true := by
    intro j hj
    have hi : j / N < len := (Nat.div_lt_iff_lt_mul hN0).2 hj
    have hc : j % N < N := Nat.mod_lt _ hN0
    obtain ⟨cs', g1, g2⟩ := h7 (j / N) (by omega)
    obtain ⟨xs, n', _, _, g3, g4, g5⟩ := DataW.trod_struct he g2
    obtain ⟨f, hff⟩ : ∃ f, fs[j % N]? = some f := ⟨_, Array.getElem?_eq_getElem (by omega)⟩
    obtain ⟨u1, u2, u3⟩ := hf _ _ hff
    have g6 := g5 _ _ hff
    rw [List.getElem?_eq_getElem (by omega)] at g6
    obtain ⟨z, g7, _, g8⟩ := DataW.trod_int u1 g6
    rw [u2, u3] at g7
    refine ⟨z, ?_, g8⟩
    obtain ⟨_, k1, k2⟩ := World.cells?_some g1
    have k3 : cs'[j % N]? = some (.int .i64 z) := by
      have := congrArg (fun l => l[0]?) g7
      simpa [List.getElem?_take, List.getElem?_drop] using this
    have k4 := k2 (j % N) (by omega)
    rw [k3, hN, add_two] at k4
    rw [← k4]; congr 2
    rw [Nat.mul_comm]; exact (Nat.div_add_mod j N).symm
  obtain ⟨Z, hZ⟩ := Go.Deep.choose_lt key
  refine ⟨a, len, cap, Z, h1, h3, h4, ?_, fun j hj => (hZ j hj).2⟩
  intro j u hu
  have hj : j < len * N := by have := (List.getElem?_eq_some_iff.1 hu).1; simpa using this
  rw [zs_at Z hj] at hu
  cases hu
  exact ⟨a, rfl, by have := cell_lt (hZ j hj).1; rwa [blk_add] at this, (hZ j hj).1⟩
end Go.Proofs.Ytgpookphacdgoaa.W
