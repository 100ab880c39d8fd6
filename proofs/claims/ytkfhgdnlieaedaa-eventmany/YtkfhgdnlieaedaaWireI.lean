/- The law WirePuts: its walk. -/
import Derived.Test.YtkfhgdnlieaedaaWireH
namespace Go.Proofs.Ytkfhgdnlieaedaa.W
open Go.RowKit

/-- The bytes of numbers, one behind the other. -/
def encs (l : List Nat) : List Nat := l.flatMap enc
theorem encs_nil : encs [] = [] := rfl
theorem encs_snoc {l : List Nat} {i n : Nat} (h : l[i]? = some n) : encs (l.take (i + 1)) = encs (l.take i) ++ enc n := by
  unfold encs
  rw [take_nsnoc h, List.flatMap_append]; simp
theorem encs_part {l : List Nat} {i n : Nat} (h : l[i]? = some n) : encs l = encs (l.take i) ++ (enc n ++ encs (l.drop (i + 1))) := by
  have e : l = l.take i ++ (n :: l.drop (i + 1)) := by
    have := (List.take_append_drop i l).symm
    rw [drop_at h] at this
    exact this
  unfold encs
  conv => lhs; rw [e]
  rw [List.flatMap_append, List.flatMap_cons]
theorem encs_len : ∀ (l : List Nat), (∀ x ∈ l, x < 18446744073709551616) → (encs l).length ≤ 10 * l.length
  | [], _ => by simp [encs]
  | n :: t, h => by
    have := encs_len t (fun x hx => h x (by simp [hx]))
    have := enc_ten (h n (by simp))
    unfold encs at *
    rw [List.flatMap_cons, List.length_append, List.length_cons]; omega
theorem encs_byte (l : List Nat) : ∀ x ∈ encs l, x < 256 := by
  intro x hx
  unfold encs at hx
  obtain ⟨n, _, h⟩ := List.mem_flatMap.1 hx
  exact enc_byte n x h

/-- Bytes as a string. -/
def strOf (bs : List Nat) : ByteArray := strOfNums (bs.map fun n : Nat => (n : Int))
theorem run_str {P : Program} {w : World} {B : Nat} {A : Option Addr} {bs : List Nat} {k c : Nat} (src dst e : TypeId) (hs : P.underlying src = some (.slice e)) (he : P.underlying e = some (.int .u8)) (hd : P.underlying dst = some .string)
    (hk : k = bs.length) (h : Lies w B A (bs.map bv)) : (convert src dst (.slice A k c)).run P w = .ok (.string (strOf bs)) w := by
  have e0 : strOf [] = ByteArray.empty := rfl
  rcases A with _ | ad
  · have : bs = [] := by
      rcases bs with _ | ⟨x, t⟩
      · rfl
      · obtain ⟨ad, q, _⟩ := h 0 (bv x) rfl; cases q
    subst this
    rw [run_convert_bytes_nil (P := P) w src e hs he k c dst hd, e0]
  · subst hk
    have hl : (loadCells ad bs.length).run P w = .ok ((bs.map fun n : Nat => (n : Int)).map (Value.int .u8)).toArray w := by
      have := run_loadCells_list (P := P) w ad ((bs.map fun n : Nat => (n : Int)).map (Value.int .u8)) (fun j v hj => by
        obtain ⟨ad', q, _, hc⟩ := h j v (by rw [List.map_map] at hj; exact hj)
        injection q with q; subst q; exact hc)
      simpa using this
    rw [run_convert_bytes_string w src dst e _ bs.length c hs he hd, run_bytesToString w _ bs.length c _ hl, foldl_push_bytes]
    simp [strOf, strOfNums, ByteArray.empty, ByteArray.emptyWithCapacity]
    rfl

/-- From an address on lie these cells, in a block that is there, and isn't g. -/
def Off (w : World) (g : Nat) (A : Option Addr) (vs : List Value) : Prop :=
  ∀ j u, vs[j]? = some u → ∃ ad, A = some ad ∧ ad.block < w.heap.size ∧ ad.block ≠ g ∧ w.cell? (ad.add j) = some u
theorem Off.lies {w : World} {g : Nat} {A : Option Addr} {vs : List Value} (h : Off w g A vs) : Lies w w.heap.size A vs := by
  intro j u hu
  obtain ⟨ad, e, h1, _, h3⟩ := h j u hu
  exact ⟨ad, e, h1, h3⟩
theorem Off.below {w w' : World} {g : Nat} {A : Option Addr} {vs : List Value} (h : Off w g A vs) (hb : Below w.heap.size w w') : Off w' g A vs := by
  intro j u hu
  obtain ⟨ad, e, h1, h2, h3⟩ := h j u hu
  exact ⟨ad, e, Nat.lt_of_lt_of_le h1 hb.size, h2, by rw [hb.cell (by rw [blk_add]; exact h1)]; exact h3⟩
theorem Off.grown {w w' : World} {g : Nat} {A : Option Addr} {vs : List Value} (h : Off w g A vs) (hg : w.grownBy w' (some g)) : Off w' g A vs := by
  intro j u hu
  obtain ⟨ad, e, h1, h2, h3⟩ := h j u hu
  exact ⟨ad, e, Nat.lt_of_lt_of_le h1 hg.size, h2, by rw [World.cell?_of_block (w := w) (hg.block _ (by rw [blk_add]; exact h1) (by rw [blk_add]; simpa using h2))]; exact h3⟩
theorem Off.of {w : World} {B g : Nat} {A : Option Addr} {vs : List Value} (h : Lies w B A vs) (hB : B ≤ w.heap.size) (hg : B ≤ g) : Off w g A vs := by
  intro j u hu
  obtain ⟨ad, e, h1, h3⟩ := h j u hu
  exact ⟨ad, e, by omega, by omega, h3⟩
theorem Off.own {w : World} {base : Nat} {e : TypeId} {g g' n cap : Nat} {vs : List Value} (h : w.ownsRow base e 1 (.slice (some ⟨g, 0, none⟩) n cap) n vs) (hne : g ≠ g') : Off w g' (some ⟨g, 0, none⟩) vs := by
  intro j u hu
  obtain ⟨ad, e, h1, h3⟩ := lies_own h j u hu
  injection e with e
  subst e
  exact ⟨_, rfl, h1, hne, h3⟩
theorem Off.other {w : World} {g g' g2 : Nat} {vs : List Value} (h : Off w g (some ⟨g2, 0, none⟩) vs) (hne : g2 ≠ g') : Off w g' (some ⟨g2, 0, none⟩) vs := by
  intro j u hu
  obtain ⟨ad, e, h1, _, h3⟩ := h j u hu
  injection e with e
  subst e
  exact ⟨_, rfl, h1, hne, h3⟩

end Go.Proofs.Ytkfhgdnlieaedaa.W
