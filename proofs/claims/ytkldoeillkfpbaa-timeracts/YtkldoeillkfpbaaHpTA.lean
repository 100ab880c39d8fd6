/- A heap of moments by timers' keys in memory: words, and the contracts of its inner functions. -/
import Derived.Test.YtkldoeillkfpbaaRows
import Derived.Test.YtkldoeillkfpbaaItm
import Derived.Test.YtkldoeillkfpbaaMpT
namespace Go.Proofs.Ytkldoeillkfpbaa.W.HT
open Go.RowKit

/-- A moment: when, and the key. -/
abbrev V := Int × Int × Int
abbrev ic (x : K × V) : List Value := [.int .i64 x.1.1, .int .i64 x.1.2, .int .i64 x.2.1, .int .i64 x.2.2.1, .int .i64 x.2.2.2]
abbrev vv (x : V) : Value := .agg #[.int .i64 x.1, .int .i64 x.2.1, .int .i64 x.2.2]
theorem enc : Enc ic 5 := ⟨fun _ => rfl, by decide, fun x u hu => by simp at hu; rcases hu with rfl | rfl | rfl | rfl | rfl <;> rfl⟩
def lt (a b : V) : Bool := decide (a.1 < b.1 ∨ a.1 = b.1 ∧ (a.2.1 < b.2.1 ∨ a.2.1 = b.2.1 ∧ a.2.2 < b.2.2))
def ok (v : V) : Prop := (Lit.int .i64 v.1).wf = true ∧ kw v.2
theorem odr : Odr lt ok := by
  refine ⟨fun a b _ _ h => ?_, fun a b c _ _ _ h h' => ?_⟩
  · have h1 := of_decide_eq_true h
    exact decide_eq_false (by omega)
  · have h1 := of_decide_eq_false h
    have h2 := of_decide_eq_false h'
    exact decide_eq_false (by omega)
theorem sizeIt : (Try.prog.info? 106).map (·.size) = some 5 := by kernel_rfl
theorem zeroI (w : World) : (zeroValue 3).run Try.prog w = .ok (.int .i64 0) w := by kernel_rfl

/-- The heap in block r: its order, its items in block g, its places in the map of block b. -/
structure St (w : World) (r : Nat) (Fv : Value) (g cap b n : Nat) (T : Nat → K × V) (M : K → Option Nat) (c : Nat) : Prop where
  blk : w.heap[r]? = some (.cells #[Fv, .slice (some ⟨g, 0, none⟩) n cap, .map (some b)] 104 (0, 0))
  row : Row ic 5 106 w g n cap T
  mp : Mp Try.prog 30 w b (fun k => (M k).map (fun j : Nat => Value.int .i64 (j : Int))) c
  rg : r ≠ g
  rb : r ≠ b
  gb : g ≠ b
  keys : ∀ j, j < n → kw (T j).1
theorem mapZ (M : K → Option Nat) (k : K) (i : Nat) : (fun k' => (updZ M k (some i) k').map (fun j : Nat => Value.int .i64 (j : Int))) = updZ (fun k' => (M k').map (fun j : Nat => Value.int .i64 (j : Int))) k (some (.int .i64 (i : Int))) := by
  funext k'; unfold updZ; split <;> rfl
theorem St.kept {w w' : World} {r : Nat} {Fv : Value} {g cap b n : Nat} {T : Nat → K × V} {M : K → Option Nat} {c : Nat} {S : Nat → Prop} (h : St w r Fv g cap b n T M c) (ho : Only w w' S) (hr : ¬ S r) (hg : ¬ S g) (hb : ¬ S b) : St w' r Fv g cap b n T M c :=
  ⟨ho.blk hr h.blk, h.row.kept ho hg, h.mp.kept ho hb, h.rg, h.rb, h.gb, h.keys⟩
theorem St.c0 {w : World} {r : Nat} {Fv : Value} {g cap b n : Nat} {T : Nat → K × V} {M : K → Option Nat} {c : Nat} (h : St w r Fv g cap b n T M c) : w.cell? ⟨r, 0, none⟩ = some Fv := cell_of_row _ _ _ _ _ _ h.blk
theorem St.c1 {w : World} {r : Nat} {Fv : Value} {g cap b n : Nat} {T : Nat → K × V} {M : K → Option Nat} {c : Nat} (h : St w r Fv g cap b n T M c) : w.cell? ⟨r, 1, none⟩ = some (.slice (some ⟨g, 0, none⟩) n cap) := cell_of_row _ _ _ _ _ _ h.blk
theorem St.c2 {w : World} {r : Nat} {Fv : Value} {g cap b n : Nat} {T : Nat → K × V} {M : K → Option Nat} {c : Nat} (h : St w r Fv g cap b n T M c) : w.cell? ⟨r, 2, none⟩ = some (.map (some b)) := cell_of_row _ _ _ _ _ _ h.blk

set_option maxRecDepth 100000 in
set_option maxHeartbeats 800000 in
theorem put_any (r : Nat) (Fv : Value) (g cap b n : Nat) (T : Nat → K × V) (M : K → Option Nat) (c : Nat) (i : Nat) (k : K) (v : V) (w : World) (h : St w r Fv g cap b n T M c) (hi : i < n) (hk : kw k) (hc : c < maxLen) (c' : Nat) (hc' : c' = if (M k).isSome then c else c + 1) :
    Calls Try.prog 54 #[.pointer (some ⟨r, 0, none⟩), .int .i64 (i : Int), .agg #[.int .i64 k.1, .int .i64 k.2, .int .i64 v.1, .int .i64 v.2.1, .int .i64 v.2.2]] w fun e w' => e = .returned (.tuple #[]) ∧ St w' r Fv g cap b n (upd T i (k, v)) (updZ M k (some i)) c' ∧ Only w w' (fun j => j = g ∨ j = b) := by
  have HC := Lib.hid hc'
  clear hc'
  have hr1 := lt_of_row h.blk
  have hg1 := h.row.lt
  have hb1 := h.mp.lt
  have ho : Only w (w.alloc (.cells #[.int .i64 k.1, .int .i64 k.2, .int .i64 v.1, .int .i64 v.2.1, .int .i64 v.2.2] 106)) (fun j => j = g ∨ j = b) := (Only.refl w _).alloc _
  have h2 := h.kept (Only.alloc (Only.refl w (fun _ => False)) (.cells #[.int .i64 k.1, .int .i64 k.2, .int .i64 v.1, .int .i64 v.2.1, .int .i64 v.2.2] 106)) (fun q => q) (fun q => q) (fun q => q)
  have hH : (w.alloc (.cells #[.int .i64 k.1, .int .i64 k.2, .int .i64 v.1, .int .i64 v.2.1, .int .i64 v.2.2] 106)).heap[w.heap.size]? = some (.cells #[.int .i64 k.1, .int .i64 k.2, .int .i64 v.1, .int .i64 v.2.1, .int .i64 v.2.2] 106) := heap_alloc_new w _
  have hHs : w.heap.size < (w.alloc (.cells #[.int .i64 k.1, .int .i64 k.2, .int .i64 v.1, .int .i64 v.2.1, .int .i64 v.2.2] 106)).heap.size := lt_of_row hH
  have hnH : w.heap.size ≠ g ∧ w.heap.size ≠ b := by omega
  go_enter Try.func54, Try.ntmps54
  go_wp2
  generalize w.alloc (.cells #[.int .i64 k.1, .int .i64 k.2, .int .i64 v.1, .int .i64 v.2.1, .int .i64 v.2.2] 106) = w1 at ho h2 hH hHs ⊢
  have e1 := h2.c1
  have e2 := cell_of_row _ _ 0 _ _ _ hH
  have e3 := cell_of_row _ _ 1 _ _ _ hH
  have e4 := cell_of_row _ _ 2 _ _ _ hH
  have e5 := cell_of_row _ _ 3 _ _ _ hH
  have e6 := cell_of_row _ _ 4 _ _ _ hH
  have hni : (i : Int) < (n : Int) := by omega
  go_still_tail 7, (by kernel_rfl)
  change wpList _ _ _ _ _ w1.drew
  have hd : Only w1 w1.drew (fun _ => False) := (Only.refl w1 _).drewN 1
  have h3 := h2.kept hd (fun q => q) (fun q => q) (fun q => q)
  have hH3 := hd.blk (fun q => q) hH
  have ho3 := ho.trans hd (fun _ q => q.elim)
  clear e1 e2 e3 e4 e5 e6 h2 hH ho
  generalize w1.drew = w2 at h3 hH3 ho3 hd ⊢
  refine wpList_item_set enc rfl 106 (.tmp 12) (.tmp 11) rfl sizeIt g n cap i T rfl (k, v) rfl h3.row hi ?_
  intro w3 hrow hg3
  have ho4 : Only w2 w3 (fun j => j = g) := Only.grown hg3 (Or.inl rfl)
  have hb3 := ho4.blk h3.rg h3.blk
  have hm3 := h3.mp.kept ho4 (fun q => h3.gb q.symm)
  have hH4 := ho4.blk hnH.1 hH3
  have ho5 := ho3.trans ho4 (fun _ q => Or.inl (Or.inl q))
  have e0 := cell_of_row _ _ 0 _ _ _ hH4
  have e0' := cell_of_row _ _ 1 _ _ _ hH4
  have e2 := cell_of_row _ _ 2 _ _ _ hb3
  go_wp2
  go_still_tail 7, (by kernel_rfl)
  change wpList _ _ _ _ _ w3.drew
  have hd2 : Only w3 w3.drew (fun _ => False) := (Only.refl w3 _).drewN 1
  refine wpList_mp_set rfl (.tmp 16) (.tmp 18) (.tmp 19) 102 rfl 30 3 kd Try.underlying102 b _ c rfl (hm3.kept hd2 (fun q => q)) hc k rfl hk (.int .i64 (i : Int)) rfl c' (by rw [HC.out]; simp) ?_
  intro w4 hm4 hg4
  have ho6 : Only w3 w4 (fun j => j = b) := (hd2.mono (fun _ q => q.elim)).tr (Only.grown hg4 (Or.inl rfl))
  clear e0 e0' e2
  go_wp2
  go_end0
  refine ⟨rfl, ⟨ho6.blk h3.rb hb3, hrow.kept ho6 h3.gb, ?_, h3.rg, h3.rb, h3.gb, ?_⟩, ho5.trans ho6 (fun _ q => Or.inl (Or.inr q))⟩
  · rw [mapZ]; exact hm4
  · intro j hj
    by_cases e : j = i
    · subst e; rw [upd_same]; exact hk
    · rw [upd_ne _ _ e]; exact h3.keys j hj
end Go.Proofs.Ytkldoeillkfpbaa.W.HT
