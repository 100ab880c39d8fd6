/- The law WireReads: its walk. -/
import Derived.Test.YtkfhgdnlieaedaaWireG
namespace Go.Proofs.Ytkfhgdnlieaedaa.W
open Go.RowKit

theorem bytes_u8 {xs : List Int} (h : ∀ n ∈ xs, (Lit.int .u8 n).wf = true) : ∃ bs : List Nat, xs.map (Value.int .u8) = bs.map bv ∧ (∀ x ∈ bs, x < 256) ∧ bs.length = xs.length := by
  obtain ⟨ns, rfl, hn⟩ := nats_of wf_u8 xs h
  exact ⟨ns, by rw [List.map_map]; rfl, hn, by simp⟩
abbrev uv (b : Nat) : Value := .int .u64 (b : Int)
theorem nums_u64 {xs : List Int} (h : ∀ n ∈ xs, (Lit.int .u64 n).wf = true) : ∃ bs : List Nat, xs.map (Value.int .u64) = bs.map uv ∧ (∀ x ∈ bs, x < 18446744073709551616) ∧ bs.length = xs.length := by
  obtain ⟨ns, rfl, hn⟩ := nats_of wf_u64 xs h
  exact ⟨ns, by rw [List.map_map]; rfl, hn, by simp⟩
theorem Lies.numN {w : World} {B : Nat} {A : Option Addr} {f : Nat → Value} {l : List Nat} (h : Lies w B A (l.map f)) {i : Nat} (hi : i < l.length) : ∃ ad x, A = some ad ∧ ad.block < B ∧ l[i]? = some x ∧ w.cell? (ad.add i) = some (f x) := by
  obtain ⟨ad, e, hb, hc⟩ := h i (f l[i]) (by rw [List.getElem?_map, List.getElem?_eq_getElem hi]; rfl)
  exact ⟨ad, l[i], e, hb, List.getElem?_eq_getElem hi, hc⟩

theorem rd_bound {w : World} {r : Nat} {bs : List Nat} {a er : Nat} (h : Rd w r bs a er) : a ≤ bs.length := by
  obtain ⟨_, _, _, _, _, h, _⟩ := h; exact h

theorem lies_far {w : World} {B k a : Nat} {A A' : Option Addr} {bs : List Nat} (h : Lies w B A (bs.map bv)) (hk : k = bs.length) (ha : A' = A.map (·.add a) ∨ k ≤ a) : Lies w B A' ((bs.drop a).map bv) := by
  rcases ha with rfl | ha
  · rw [List.map_drop]; exact h.drop a _ (fun _ => rfl)
  · rw [List.drop_of_length_le (by omega)]; exact Lies.nil _ _ _
theorem more_is (bs : List Nat) (a er k : Nat) (hk : k = bs.length) : (er = 0 ∧ a < k ∧ moreB bs a er = true) ∨ (er = 0 ∧ k ≤ a ∧ moreB bs a er = false) ∨ (er ≠ 0 ∧ moreB bs a er = false) := by
  by_cases h : er = 0
  · subst h
    rcases Nat.lt_or_ge a k with q | q
    · exact Or.inl ⟨rfl, q, more_yes (by omega)⟩
    · exact Or.inr (Or.inl ⟨rfl, q, more_end (by omega)⟩)
  · exact Or.inr (Or.inr ⟨h, more_err h⟩)
end Go.Proofs.Ytkfhgdnlieaedaa.W
