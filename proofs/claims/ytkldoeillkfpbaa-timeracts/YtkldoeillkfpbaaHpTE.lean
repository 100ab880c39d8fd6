/- A heap in memory: its words, New, Len, Get, Min. -/
import Derived.Test.YtkldoeillkfpbaaHpTD
import Derived.Test.YtkldoeillkfpbaaItn
namespace Go.Proofs.Ytkldoeillkfpbaa.W.HT
open Go.RowKit

def MpO (w : World) (B : Option Nat) (M : K → Option Nat) (n : Nat) : Prop :=
  (B = none ∧ n = 0 ∧ ∀ k, M k = none) ∨ ∃ b, B = some b ∧ Mp Try.prog 30 w b (fun k => (M k).map (fun j : Nat => Value.int .i64 (j : Int))) n
theorem MpO.kept {w w' : World} {B : Option Nat} {M : K → Option Nat} {n : Nat} {S : Nat → Prop} (h : MpO w B M n) (ho : Only w w' S) (hb : ∀ b, B = some b → ¬ S b) : MpO w' B M n := by
  rcases h with h | ⟨b, h1, h2⟩
  · exact Or.inl h
  · exact Or.inr ⟨b, h1, h2.kept ho (hb b h1)⟩

/-- The heap in block r: its items in block G, its places in block B (if any); it holds n keys, with these values. -/
structure Hp (w : World) (r : Nat) (Fv : Value) (G B : Option Nat) (n : Nat) (A : K → Option V) (sv : Value) (T : Nat → K × V) (M : K → Option Nat) : Prop where
  blk : w.heap[r]? = some (.cells #[Fv, sv, .map B] 104 (0, 0))
  its : Its ic 5 106 w sv G n T
  mp : MpO w B M n
  full : Full lt ok n T M A
  keys : ∀ j, j < n → kw (T j).1
  rg : ∀ g, G = some g → r ≠ g
  rb : ∀ b, B = some b → r ≠ b
  gb : ∀ g b, G = some g → B = some b → g ≠ b

/-- .. in blocks of X alone. -/
def Ob (w : World) (r : Nat) (Fv : Value) (n : Nat) (A : K → Option V) (X : Nat → Prop) : Prop :=
  ∃ G B sv T M, Hp w r Fv G B n A sv T M ∧ X r ∧ (∀ g, G = some g → X g) ∧ (∀ b, B = some b → X b) ∧ ∀ j, X j → j < w.heap.size
theorem Ob.kept {w w' : World} {r : Nat} {Fv : Value} {n : Nat} {A : K → Option V} {X S : Nat → Prop} (h : Ob w r Fv n A X) (ho : Only w w' S) (hd : ∀ j, X j → ¬ S j) : Ob w' r Fv n A X := by
  obtain ⟨G, B, sv, T, M, h, h1, h2, h3, h4⟩ := h
  exact ⟨G, B, sv, T, M, ⟨ho.blk (hd r h1) h.blk, h.its.kept ho (fun g hg => hd g (h2 g hg)), h.mp.kept ho (fun b hb => hd b (h3 b hb)), h.full, h.keys, h.rg, h.rb, h.gb⟩, h1, h2, h3, fun j hj => Nat.lt_of_lt_of_le (h4 j hj) ho.size⟩
theorem Ob.lt {w : World} {r : Nat} {Fv : Value} {n : Nat} {A : K → Option V} {X : Nat → Prop} (h : Ob w r Fv n A X) : ∀ j, X j → j < w.heap.size := by
  obtain ⟨G, B, sv, T, M, h, h1, h2, h3, h4⟩ := h; exact h4
theorem Ob.self {w : World} {r : Nat} {Fv : Value} {n : Nat} {A : K → Option V} {X : Nat → Prop} (h : Ob w r Fv n A X) : X r := by
  obtain ⟨G, B, sv, T, M, h, h1, h2, h3, h4⟩ := h; exact h1
theorem Ob.okV {w : World} {r : Nat} {Fv : Value} {n : Nat} {A : K → Option V} {X : Nat → Prop} (h : Ob w r Fv n A X) {k : K} {v : V} (hk : A k = some v) : ok v ∧ kw k := by
  obtain ⟨G, B, sv, T, M, h, _⟩ := h
  obtain ⟨j, h1, h2⟩ := (h.full.con _ _).1 hk
  have a := h.full.okV j h1
  have b := h.keys j h1
  rw [h2] at a b; exact ⟨a, b⟩
theorem Ob.zero {w : World} {r : Nat} {Fv : Value} {A : K → Option V} {X : Nat → Prop} (h : Ob w r Fv 0 A X) (k : K) : A k = none := by
  obtain ⟨G, B, sv, T, M, h, _⟩ := h
  exact h.full.zero k
theorem Ob.some_ {w : World} {r : Nat} {Fv : Value} {n : Nat} {A : K → Option V} {X : Nat → Prop} (h : Ob w r Fv n A X) (hn : 0 < n) : ∃ k v, A k = some v := by
  obtain ⟨G, B, sv, T, M, h, _⟩ := h
  exact ⟨_, _, (h.full.mn odr hn).1⟩
theorem Ob.pos {w : World} {r : Nat} {Fv : Value} {n : Nat} {A : K → Option V} {X : Nat → Prop} (h : Ob w r Fv n A X) {k : K} {v : V} (hk : A k = some v) : 0 < n := by
  obtain ⟨G, B, sv, T, M, h, _⟩ := h
  obtain ⟨j, h1, _⟩ := (h.full.con _ _).1 hk
  omega

set_option maxRecDepth 100000 in
set_option maxHeartbeats 800000 in
theorem new_any (fn : Fn) (fi ca : Array Value) (w : World) :
    Calls Try.prog 44 #[.func fn fi ca] w fun e w' => e = .returned (.pointer (some ⟨w.heap.size, 0, none⟩)) ∧ Ob w' w.heap.size (.func fn fi ca) 0 (fun _ => none) (fun j => j = w.heap.size) ∧ Below w.heap.size w w' := by
  go_enter Try.func44, Try.ntmps44
  go_wp2
  go_ret
  refine ⟨rfl, ⟨none, none, .slice none 0 0, fun _ => ((0, 0), (0, 0, 0)), fun _ => none, ⟨heap_alloc_new w _, Or.inl ⟨rfl, rfl, rfl⟩, Or.inl ⟨rfl, rfl, fun _ => rfl⟩, Full.empty _, fun j hj => absurd hj (by omega), (fun _ q => nomatch q), (fun _ q => nomatch q), (fun _ _ q => nomatch q)⟩, rfl, (fun _ q => nomatch q), (fun _ q => nomatch q), fun j q => ?_⟩, (Below.refl _ _).alloc (Nat.le_refl _) _⟩
  rw [q]; exact lt_of_row (heap_alloc_new w _)

set_option maxRecDepth 100000 in
set_option maxHeartbeats 800000 in
theorem len_any (r : Nat) (Fv : Value) (n : Nat) (A : K → Option V) (X : Nat → Prop) (w : World) (h : Ob w r Fv n A X) :
    Calls Try.prog 35 #[.pointer (some ⟨r, 0, none⟩)] w fun e w' => e = .returned (.int .i64 (n : Int)) ∧ w = w' := by
  obtain ⟨G, B, sv, T, M, h, h1, h2, h3, h4⟩ := h
  have c1 := cell_of_row _ _ 1 _ _ _ h.blk
  obtain ⟨A1, cap, rfl, hc1, hc2⟩ := h.its.slice
  go_enter Try.func35, Try.ntmps35
  go_wp2
  go_ret
  exact ⟨rfl, rfl⟩

end Go.Proofs.Ytkldoeillkfpbaa.W.HT
