/- A heap of ranks by ints in memory: words, and the contracts of its inner functions. -/
import Derived.Test.YtpagleilaaljoaaRows
import Derived.Test.YtpagleilaaljoaaItm
namespace Go.Proofs.Ytpagleilaaljoaa.W.HR
open Go.RowKit

/-- A rank: what it is worth (a number by a number), and the id. -/
abbrev V := Nat × Nat × Int
abbrev ic (x : Int × V) : List Value := [.int .i64 x.1, .int .u64 (x.2.1 : Int), .int .u64 (x.2.2.1 : Int), .int .i64 x.2.2.2]
abbrev vv (x : V) : Value := .agg #[.int .u64 (x.1 : Int), .int .u64 (x.2.1 : Int), .int .i64 x.2.2]
theorem enc : Enc ic 4 := ⟨fun _ => rfl, by decide, fun x u hu => by simp at hu; rcases hu with rfl | rfl | rfl | rfl <;> rfl⟩
def lt (a b : V) : Bool := decide (a.1 * b.2.1 < b.1 * a.2.1 ∨ (a.1 * b.2.1 = b.1 * a.2.1 ∧ a.2.2 < b.2.2))
def ok (v : V) : Prop := v.1 < 18446744073709551616 ∧ 0 < v.2.1 ∧ v.2.1 < 18446744073709551616 ∧ (KL v.2.2).wf = true
theorem odr : Odr lt ok := by
  have key : ∀ a b : V, lt a b = false ↔ (b.1 * a.2.1 < a.1 * b.2.1 ∨ (b.1 * a.2.1 = a.1 * b.2.1 ∧ b.2.2 ≤ a.2.2)) := by
    intro a b
    unfold lt
    rw [decide_eq_false_iff_not]
    constructor
    · intro h
      rcases Nat.lt_trichotomy (a.1 * b.2.1) (b.1 * a.2.1) with q | q | q
      · exact absurd (Or.inl q) h
      · refine Or.inr ⟨q.symm, Int.not_lt.1 (fun q' => h (Or.inr ⟨q, q'⟩))⟩
      · exact Or.inl q
    · rintro (h | ⟨h, h'⟩) (q | ⟨q, q'⟩)
      · omega
      · omega
      · omega
      · exact absurd q' (Int.not_lt.2 h')
  refine ⟨fun a b ha hb h => ?_, fun a b c ha hb hc h h' => ?_⟩
  · rw [key]
    rcases of_decide_eq_true h with q | ⟨q, q'⟩
    · exact Or.inl q
    · exact Or.inr ⟨q, Int.le_of_lt q'⟩
  · rw [key] at h h' ⊢
    obtain ⟨_, ha, _⟩ := ha
    obtain ⟨_, hb, _⟩ := hb
    obtain ⟨_, hc, _⟩ := hc
    have s1 : b.1 * a.2.1 ≤ a.1 * b.2.1 := by omega
    have s2 : c.1 * b.2.1 ≤ b.1 * c.2.1 := by omega
    have m1 := Nat.mul_le_mul_right c.2.1 s1
    have m2 := Nat.mul_le_mul_right a.2.1 s2
    have e1 : b.1 * a.2.1 * c.2.1 = b.1 * c.2.1 * a.2.1 := Nat.mul_right_comm _ _ _
    have e2 : c.1 * b.2.1 * a.2.1 = c.1 * a.2.1 * b.2.1 := Nat.mul_right_comm _ _ _
    have e3 : a.1 * b.2.1 * c.2.1 = a.1 * c.2.1 * b.2.1 := Nat.mul_right_comm _ _ _
    have m3 : c.1 * a.2.1 * b.2.1 ≤ a.1 * c.2.1 * b.2.1 := by omega
    have m4 : c.1 * a.2.1 ≤ a.1 * c.2.1 := Nat.le_of_mul_le_mul_right m3 hb
    rcases Nat.lt_or_ge (c.1 * a.2.1) (a.1 * c.2.1) with q | q
    · exact Or.inl q
    · have q1 : c.1 * a.2.1 = a.1 * c.2.1 := by omega
      right
      refine ⟨q1, ?_⟩
      have m5 : c.1 * a.2.1 * b.2.1 = a.1 * c.2.1 * b.2.1 := by rw [q1]
      have t1 : b.1 * a.2.1 = a.1 * b.2.1 := by
        have : b.1 * a.2.1 * c.2.1 = a.1 * b.2.1 * c.2.1 := by omega
        exact Nat.eq_of_mul_eq_mul_right hc this
      have t2 : c.1 * b.2.1 = b.1 * c.2.1 := by
        have : c.1 * b.2.1 * a.2.1 = b.1 * c.2.1 * a.2.1 := by omega
        exact Nat.eq_of_mul_eq_mul_right ha this
      rcases h with h | ⟨_, h⟩
      · omega
      · rcases h' with h' | ⟨_, h'⟩
        · omega
        · exact Int.le_trans h' h
theorem sizeIt : (Try.prog.info? 90).map (·.size) = some 4 := by kernel_rfl
theorem zeroI (w : World) : (zeroValue 3).run Try.prog w = .ok (.int .i64 0) w := by kernel_rfl

/-- The heap in block r: its order, its items in block g, its places in the map of block b. -/
structure St (w : World) (r : Nat) (Fv : Value) (g cap b n : Nat) (T : Nat → Int × V) (M : Int → Option Nat) (c : Nat) : Prop where
  blk : w.heap[r]? = some (.cells #[Fv, .slice (some ⟨g, 0, none⟩) n cap, .map (some b)] 88 (0, 0))
  row : Row ic 4 90 w g n cap T
  mp : Mp Try.prog 3 w b (fun k => (M k).map (fun j : Nat => Value.int .i64 (j : Int))) c
  rg : r ≠ g
  rb : r ≠ b
  gb : g ≠ b
  keys : ∀ j, j < n → (KL (T j).1).wf = true
theorem mapZ (M : Int → Option Nat) (k : Int) (i : Nat) : (fun k' => (updZ M k (some i) k').map (fun j : Nat => Value.int .i64 (j : Int))) = updZ (fun k' => (M k').map (fun j : Nat => Value.int .i64 (j : Int))) k (some (.int .i64 (i : Int))) := by
  funext k'; unfold updZ; split <;> rfl
theorem St.kept {w w' : World} {r : Nat} {Fv : Value} {g cap b n : Nat} {T : Nat → Int × V} {M : Int → Option Nat} {c : Nat} {S : Nat → Prop} (h : St w r Fv g cap b n T M c) (ho : Only w w' S) (hr : ¬ S r) (hg : ¬ S g) (hb : ¬ S b) : St w' r Fv g cap b n T M c :=
  ⟨ho.blk hr h.blk, h.row.kept ho hg, h.mp.kept ho hb, h.rg, h.rb, h.gb, h.keys⟩
theorem St.c0 {w : World} {r : Nat} {Fv : Value} {g cap b n : Nat} {T : Nat → Int × V} {M : Int → Option Nat} {c : Nat} (h : St w r Fv g cap b n T M c) : w.cell? ⟨r, 0, none⟩ = some Fv := cell_of_row _ _ _ _ _ _ h.blk
theorem St.c1 {w : World} {r : Nat} {Fv : Value} {g cap b n : Nat} {T : Nat → Int × V} {M : Int → Option Nat} {c : Nat} (h : St w r Fv g cap b n T M c) : w.cell? ⟨r, 1, none⟩ = some (.slice (some ⟨g, 0, none⟩) n cap) := cell_of_row _ _ _ _ _ _ h.blk
theorem St.c2 {w : World} {r : Nat} {Fv : Value} {g cap b n : Nat} {T : Nat → Int × V} {M : Int → Option Nat} {c : Nat} (h : St w r Fv g cap b n T M c) : w.cell? ⟨r, 2, none⟩ = some (.map (some b)) := cell_of_row _ _ _ _ _ _ h.blk

set_option maxRecDepth 100000 in
set_option maxHeartbeats 800000 in
theorem put_any (r : Nat) (Fv : Value) (g cap b n : Nat) (T : Nat → Int × V) (M : Int → Option Nat) (c : Nat) (i : Nat) (k : Int) (p q : Nat) (d : Int) (w : World) (h : St w r Fv g cap b n T M c) (hi : i < n) (hk : (KL k).wf = true) (hc : c < maxLen) (c' : Nat) (hc' : c' = if (M k).isSome then c else c + 1) :
    Calls Try.prog 55 #[.pointer (some ⟨r, 0, none⟩), .int .i64 (i : Int), .agg #[.int .i64 k, .int .u64 (p : Int), .int .u64 (q : Int), .int .i64 d]] w fun e w' => e = .returned (.tuple #[]) ∧ St w' r Fv g cap b n (upd T i (k, (p, q, d))) (updZ M k (some i)) c' ∧ Only w w' (fun j => j = g ∨ j = b) := by
  have HC := Lib.hid hc'
  clear hc'
  have hr1 := lt_of_row h.blk
  have hg1 := h.row.lt
  have hb1 := h.mp.lt
  have ho : Only w (w.alloc (.cells #[.int .i64 k, .int .u64 (p : Int), .int .u64 (q : Int), .int .i64 d] 90)) (fun j => j = g ∨ j = b) := (Only.refl w _).alloc _
  have h2 := h.kept (Only.alloc (Only.refl w (fun _ => False)) (.cells #[.int .i64 k, .int .u64 (p : Int), .int .u64 (q : Int), .int .i64 d] 90)) (fun q => q) (fun q => q) (fun q => q)
  have hH : (w.alloc (.cells #[.int .i64 k, .int .u64 (p : Int), .int .u64 (q : Int), .int .i64 d] 90)).heap[w.heap.size]? = some (.cells #[.int .i64 k, .int .u64 (p : Int), .int .u64 (q : Int), .int .i64 d] 90) := heap_alloc_new w _
  have hHs : w.heap.size < (w.alloc (.cells #[.int .i64 k, .int .u64 (p : Int), .int .u64 (q : Int), .int .i64 d] 90)).heap.size := lt_of_row hH
  have hnH : w.heap.size ≠ g ∧ w.heap.size ≠ b := by omega
  go_enter Try.func55, Try.ntmps55
  go_wp2
  generalize w.alloc (.cells #[.int .i64 k, .int .u64 (p : Int), .int .u64 (q : Int), .int .i64 d] 90) = w1 at ho h2 hH hHs ⊢
  have e1 := h2.c1
  have e2 := cell_of_row _ _ 0 _ _ _ hH
  have e3 := cell_of_row _ _ 1 _ _ _ hH
  have e4 := cell_of_row _ _ 2 _ _ _ hH
  have e5 := cell_of_row _ _ 3 _ _ _ hH
  have hni : (i : Int) < (n : Int) := by omega
  go_still_tail 7, (by kernel_rfl)
  change wpList _ _ _ _ _ w1.drew
  have hd : Only w1 w1.drew (fun _ => False) := (Only.refl w1 _).drewN 1
  have h3 := h2.kept hd (fun q => q) (fun q => q) (fun q => q)
  have hH3 := hd.blk (fun q => q) hH
  have ho3 := ho.trans hd (fun _ q => q.elim)
  clear e1 e2 e3 e4 e5 h2 hH ho
  generalize w1.drew = w2 at h3 hH3 ho3 hd ⊢
  refine wpList_item_set enc rfl 90 (.tmp 12) (.tmp 11) rfl sizeIt g n cap i T rfl (k, (p, q, d)) rfl h3.row hi ?_
  intro w3 hrow hg3
  have ho4 : Only w2 w3 (fun j => j = g) := Only.grown hg3 (Or.inl rfl)
  have hb3 := ho4.blk h3.rg h3.blk
  have hm3 := h3.mp.kept ho4 (fun q => h3.gb q.symm)
  have hH4 := ho4.blk hnH.1 hH3
  have ho5 := ho3.trans ho4 (fun _ q => Or.inl (Or.inl q))
  have e0 := cell_of_row _ _ 0 _ _ _ hH4
  have e2 := cell_of_row _ _ 2 _ _ _ hb3
  go_wp2
  go_still_tail 7, (by kernel_rfl)
  change wpList _ _ _ _ _ w3.drew
  have hd2 : Only w3 w3.drew (fun _ => False) := (Only.refl w3 _).drewN 1
  refine wpList_mp_set rfl (.tmp 16) (.tmp 18) (.tmp 19) 27 rfl 3 3 Try.underlying3 Try.underlying27 b _ c rfl (hm3.kept hd2 (fun q => q)) hc k rfl hk (.int .i64 (i : Int)) rfl c' (by rw [HC.out]; simp) ?_
  intro w4 hm4 hg4
  have ho6 : Only w3 w4 (fun j => j = b) := (hd2.mono (fun _ q => q.elim)).tr (Only.grown hg4 (Or.inl rfl))
  clear e0 e2
  go_wp2
  go_end0
  refine ⟨rfl, ⟨ho6.blk h3.rb hb3, hrow.kept ho6 h3.gb, ?_, h3.rg, h3.rb, h3.gb, ?_⟩, ho5.trans ho6 (fun _ q => Or.inl (Or.inr q))⟩
  · rw [mapZ]; exact hm4
  · intro j hj
    by_cases e : j = i
    · subst e; rw [upd_same]; exact hk
    · rw [upd_ne _ _ e]; exact h3.keys j hj
end Go.Proofs.Ytpagleilaaljoaa.W.HR
