/- The laws WireSizes, WireCuts, WireMosts: walks. -/
import Derived.Test.YtkfhgdnlieaedaaWireE
namespace Go.Proofs.Ytkfhgdnlieaedaa.W
open Go.RowKit

theorem put_nil (n : Nat) (w : World) (hn : n < 18446744073709551616) : Calls Try.prog 19 #[.slice none 0 0, .int .u64 (n : Int)] w (NewB w (enc n)) :=
  put_any none 0 0 n [] w rfl (Lies.nil _ _ _) (by omega) hn

theorem below_next {a b c : World} (h : Below a.heap.size a b) (k : Below b.heap.size b c) : Below a.heap.size a c := h.trans (k.mono h.size)
theorem below3 {a b c d : World} (h : Below a.heap.size a b) (k : Below b.heap.size b c) (l : Below c.heap.size c d) : Below a.heap.size a d := below_next (below_next h k) l
theorem enc_one {a : Nat} : (enc a).length = 1 ↔ a < 128 := by
  constructor
  · intro h
    rcases Nat.lt_or_ge a 128 with k | k
    · exact k
    · rw [enc_big k] at h; have := enc_pos (a / 128); simp at h; rw [h] at this; simp at this
  · intro h; rw [enc_small h]; rfl

theorem n_five (n : Nat) : nV (enc n ++ [5]) (enc n).length 0 9 = 5 ∧ nA (enc n ++ [5]) (enc n).length 0 9 = (enc n).length + 1 ∧ nE (enc n ++ [5]) (enc n).length 0 9 = 0 := by
  have := n_enc (pre := enc n) (r := []) (n := 5) (most := 9) (by omega) (by omega)
  rw [enc_small (show 5 < 128 by omega)] at this
  simpa using this

theorem below_num {w w1 w2 : World} {r : Nat} (h : Below w.heap.size w w1) (hr : w.heap.size ≤ r) (hg : w1.grownBy w2 (some r)) : Below w.heap.size w w2 :=
  h.grown hg h.size (fun k hk => by injection hk with hk; omega)
theorem cut_at (cut : Int) (l : Nat) (l1 : 1 ≤ l) (l2 : l ≤ 10) : ∃ q : Nat, wrap64 ((IntKind.u64.wrap cut).tmod (l : Int)) = (q : Int) ∧ q < l := by
  have h0 : 0 ≤ IntKind.u64.wrap cut := by rw [IntKind.wrap_u64]; omega
  have e := Int.tmod_eq_emod_of_nonneg (b := (l : Int)) h0
  have a1 := Int.emod_nonneg (IntKind.u64.wrap cut) (show (l : Int) ≠ 0 by omega)
  have a2 := Int.emod_lt_of_pos (IntKind.u64.wrap cut) (show 0 < (l : Int) by omega)
  refine ⟨(IntKind.u64.wrap cut % (l : Int)).toNat, ?_, by omega⟩
  rw [e, IntWalk.wrap64_in _ ⟨by omega, by omega⟩]; omega
end Go.Proofs.Ytkfhgdnlieaedaa.W
