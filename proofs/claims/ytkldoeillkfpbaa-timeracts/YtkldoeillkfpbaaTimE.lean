/- Package timer: what Due tells; one and two Timers beside boxes; the laws' head. -/
import Derived.Test.YtkldoeillkfpbaaTimD
namespace Go.Proofs.Ytkldoeillkfpbaa.W.HT
open Go.RowKit

/-! ### What Due tells -/

theorem Tk.mono {A B : K → Option Int} {now now' : Int} {m : Nat} {F : Nat → K} (h : Tk A now m F B) (hn : now ≤ now') : Tk A now' m F B := by
  obtain ⟨Z, h0, hm, hs⟩ := h
  exact ⟨Z, h0, hm, fun i hi => by obtain ⟨⟨t, a, b⟩, c⟩ := hs i hi; exact ⟨⟨t, a, by omega⟩, c⟩⟩
theorem Tk.sub {A B : K → Option Int} {now : Int} {m : Nat} {F : Nat → K} (h : Tk A now m F B) {k : K} {t : Int} (hk : B k = some t) : A k = some t := by
  obtain ⟨Z, h0, hm, hs⟩ := h
  have key : ∀ i, i ≤ m → Z i k = some t → Z 0 k = some t := by
    intro i
    induction i with
    | zero => exact fun _ q => q
    | succ i ih =>
      intro hi q
      rw [(hs i (by omega)).2] at q
      by_cases e : k = F i
      · rw [e, updZ_same] at q; cases q
      · rw [updZ_ne _ _ e] at q; exact ih (by omega) q
  rw [← h0]; exact key m (Nat.le_refl _) (by rw [hm]; exact hk)
theorem Tk.head {A B : K → Option Int} {now : Int} {m : Nat} {F : Nat → K} {k : K} {t : Int} (h : Tk A now m F B) (hl : ∀ k t, B k = some t → now < t) (hF : Fst A k t) (ht : t ≤ now) : ∃ m', m = m' + 1 ∧ F 0 = k ∧ Tk (updZ A k none) now m' (fun i => F (i + 1)) B := by
  obtain ⟨Z, h0, hm, hs⟩ := h
  cases m with
  | zero =>
    have := hl k t (by rw [← hm, h0]; exact hF.1)
    omega
  | succ m =>
    obtain ⟨⟨t', a, _⟩, c⟩ := hs 0 (by omega)
    rw [h0] at a c
    obtain ⟨e, _⟩ := a.uniq hF
    refine ⟨m, rfl, e, fun i => Z (i + 1), by rw [← e]; exact c, hm, fun i hi => hs (i + 1) (by omega)⟩
theorem Tk.stop {A B : K → Option Int} {now : Int} {m : Nat} {F : Nat → K} (h : Tk A now m F B) (hl : ∀ k t, A k = some t → now < t) : m = 0 ∧ B = A := by
  obtain ⟨Z, h0, hm, hs⟩ := h
  cases m with
  | zero => exact ⟨rfl, by rw [← hm, h0]⟩
  | succ m =>
    obtain ⟨⟨t', a, b⟩, c⟩ := hs 0 (by omega)
    rw [h0] at a
    have := hl _ _ a.1
    omega
theorem Tk.same {A B B' : K → Option Int} {now now' : Int} {m m' : Nat} {F F' : Nat → K} (h : Tk A now m F B) (h' : Tk A now' m' F' B') : ∀ i, i < m → i < m' → F i = F' i := by
  obtain ⟨Z, h0, hm, hs⟩ := h
  obtain ⟨Z', h0', hm', hs'⟩ := h'
  have key : ∀ i, i ≤ m → i ≤ m' → Z i = Z' i := by
    intro i
    induction i with
    | zero => intro _ _; rw [h0, h0']
    | succ i ih =>
      intro q q'
      have e := ih (by omega) (by omega)
      obtain ⟨⟨t, a, _⟩, c⟩ := hs i (by omega)
      obtain ⟨⟨t', a', _⟩, c'⟩ := hs' i (by omega)
      rw [e] at a c
      rw [c, c', (a.uniq a').1]
  intro i q q'
  obtain ⟨⟨t, a, _⟩, _⟩ := hs i q
  obtain ⟨⟨t', a', _⟩, _⟩ := hs' i q'
  rw [key i (by omega) (by omega)] at a
  exact (a.uniq a').1
def catF (F : Nat → K) (m : Nat) (F' : Nat → K) : Nat → K := fun i => if i < m then F i else F' (i - m)
theorem Tk.cat {A B C : K → Option Int} {now : Int} {m m' : Nat} {F F' : Nat → K} (h : Tk A now m F B) (h' : Tk B now m' F' C) : Tk A now (m + m') (catF F m F') C := by
  obtain ⟨Z, h0, hm, hs⟩ := h
  obtain ⟨Z', h0', hm', hs'⟩ := h'
  refine ⟨fun i => if i < m then Z i else Z' (i - m), ?_, ?_, ?_⟩
  · show (if 0 < m then Z 0 else Z' (0 - m)) = A
    split
    · exact h0
    · rename_i q
      have : m = 0 := by omega
      subst this
      rw [show 0 - 0 = 0 from rfl, h0', ← hm, h0]
  · show (if m + m' < m then Z (m + m') else Z' (m + m' - m)) = C
    rw [if_neg (by omega), show m + m' - m = m' by omega]; exact hm'
  · intro i hi
    show (∃ t, Fst (if i < m then Z i else Z' (i - m)) (catF F m F' i) t ∧ t ≤ now) ∧ (if i + 1 < m then Z (i + 1) else Z' (i + 1 - m)) = updZ (if i < m then Z i else Z' (i - m)) (catF F m F' i) none
    unfold catF
    by_cases q : i < m
    · rw [if_pos q, if_pos q]
      obtain ⟨a, b⟩ := hs i q
      refine ⟨a, ?_⟩
      by_cases q' : i + 1 < m
      · rw [if_pos q']; exact b
      · have : i + 1 = m := by omega
        rw [if_neg q', this, Nat.sub_self, h0', ← hm, ← this]; exact b
    · rw [if_neg q, if_neg q, if_neg (by omega), show i + 1 - m = (i - m) + 1 by omega]
      exact hs' (i - m) (by omega)

/-! ### One and two Timers, beside boxes -/

/-- Timers in blocks from S0 on, none of which is one of L. -/
def T1 (S0 : Nat) (L : Nat → Prop) (w : World) (c n : Nat) (A : K → Option Int) : Prop :=
  ∃ X, Tx w c n A X ∧ (∀ j, X j → S0 ≤ j ∧ ¬ L j) ∧ S0 ≤ w.heap.size ∧ ∀ j, L j → j < w.heap.size
def T2 (S0 : Nat) (L : Nat → Prop) (w : World) (a b na nb : Nat) (A B : K → Option Int) : Prop :=
  ∃ X, Tx w a na A X ∧ (∀ j, X j → S0 ≤ j ∧ ¬ L j) ∧ S0 ≤ w.heap.size ∧ (∀ j, L j → j < w.heap.size) ∧ T1 S0 (fun j => L j ∨ X j) w b nb B
abbrev Fr (S0 : Nat) (L : Nat → Prop) (w w' : World) : Prop := Only w w' (fun j => S0 ≤ j ∧ ¬ L j)
theorem T1.kept {S0 : Nat} {L S : Nat → Prop} {w w' : World} {c n : Nat} {A : K → Option Int} (h : T1 S0 L w c n A) (ho : Only w w' S) (hS : ∀ j, S j → L j) : T1 S0 L w' c n A := by
  obtain ⟨X, h1, h2, h3, h4⟩ := h
  exact ⟨X, h1.kept ho (fun j q q' => (h2 j q).2 (hS j q')), h2, Nat.le_trans h3 ho.size, fun j q => Nat.lt_of_lt_of_le (h4 j q) ho.size⟩
theorem T2.kept {S0 : Nat} {L S : Nat → Prop} {w w' : World} {a b na nb : Nat} {A B : K → Option Int} (h : T2 S0 L w a b na nb A B) (ho : Only w w' S) (hS : ∀ j, S j → L j) : T2 S0 L w' a b na nb A B := by
  obtain ⟨X, h1, h2, h3, h4, h5⟩ := h
  exact ⟨X, h1.kept ho (fun j q q' => (h2 j q).2 (hS j q')), h2, Nat.le_trans h3 ho.size, fun j q => Nat.lt_of_lt_of_le (h4 j q) ho.size, h5.kept ho (fun j q => Or.inl (hS j q))⟩
theorem T1.less {S0 : Nat} {L L' : Nat → Prop} {w : World} {c n : Nat} {A : K → Option Int} (h : T1 S0 L w c n A) (hL : ∀ j, L' j → L j) : T1 S0 L' w c n A := by
  obtain ⟨X, h1, h2, h3, h4⟩ := h
  exact ⟨X, h1, fun j q => ⟨(h2 j q).1, fun q' => (h2 j q).2 (hL j q')⟩, h3, fun j q => h4 j (hL j q)⟩
theorem T2.less {S0 : Nat} {L L' : Nat → Prop} {w : World} {a b na nb : Nat} {A B : K → Option Int} (h : T2 S0 L w a b na nb A B) (hL : ∀ j, L' j → L j) : T2 S0 L' w a b na nb A B := by
  obtain ⟨X, h1, h2, h3, h4, h5⟩ := h
  exact ⟨X, h1, fun j q => ⟨(h2 j q).1, fun q' => (h2 j q).2 (hL j q')⟩, h3, fun j q => h4 j (hL j q), h5.less (fun j q => q.imp (hL j) id)⟩
theorem T2.swap {S0 : Nat} {L : Nat → Prop} {w : World} {a b na nb : Nat} {A B : K → Option Int} (h : T2 S0 L w a b na nb A B) : T2 S0 L w b a nb na B A := by
  obtain ⟨X, h1, h2, h3, h4, Y, g1, g2, g3, g4⟩ := h
  refine ⟨Y, g1, fun j q => ⟨(g2 j q).1, fun q' => (g2 j q).2 (Or.inl q')⟩, h3, h4, X, h1, fun j q => ⟨(h2 j q).1, fun q' => ?_⟩, h3, fun j q => q.elim (h4 j) (g1.2 j)⟩
  rcases q' with q' | q'
  · exact (h2 j q).2 q'
  · exact (g2 j q').2 (Or.inr q)
/-- More boxes. -/
theorem T1.more {S0 : Nat} {L : Nat → Prop} {w w' : World} {c n : Nat} {A : K → Option Int} (h : T1 S0 L w c n A) (ho : Only w w' (fun _ => False)) (L' : Nat → Prop) (hL : ∀ j, L' j → L j ∨ w.heap.size ≤ j) (hl : ∀ j, L' j → j < w'.heap.size) : T1 S0 L' w' c n A := by
  obtain ⟨X, h1, h2, h3, h4⟩ := h
  refine ⟨X, h1.kept ho (fun _ _ q => q), fun j q => ⟨(h2 j q).1, fun q' => ?_⟩, Nat.le_trans h3 ho.size, hl⟩
  rcases hL j q' with q' | q'
  · exact (h2 j q).2 q'
  · have := h1.2 j q; omega
theorem T2.more {S0 : Nat} {L : Nat → Prop} {w w' : World} {a b na nb : Nat} {A B : K → Option Int} (h : T2 S0 L w a b na nb A B) (ho : Only w w' (fun _ => False)) (L' : Nat → Prop) (hL : ∀ j, L' j → L j ∨ w.heap.size ≤ j) (hl : ∀ j, L' j → j < w'.heap.size) : T2 S0 L' w' a b na nb A B := by
  obtain ⟨X, h1, h2, h3, h4, h5⟩ := h
  refine ⟨X, h1.kept ho (fun _ _ q => q), fun j q => ⟨(h2 j q).1, fun q' => ?_⟩, Nat.le_trans h3 ho.size, hl, h5.more ho _ (fun j q => ?_) (fun j q => ?_)⟩
  · rcases hL j q' with q' | q'
    · exact (h2 j q).2 q'
    · have := h1.2 j q; omega
  · rcases q with q | q
    · rcases hL j q with q | q
      · exact Or.inl (Or.inl q)
      · exact Or.inr q
    · exact Or.inl (Or.inr q)
  · rcases q with q | q
    · exact hl j q
    · exact Nat.lt_of_lt_of_le (h1.2 j q) ho.size
theorem T2.fst {S0 : Nat} {L : Nat → Prop} {w : World} {a b na nb : Nat} {A B : K → Option Int} (h : T2 S0 L w a b na nb A B) : ∃ X, Tx w a na A X := by
  obtain ⟨X, h1, _⟩ := h; exact ⟨X, h1⟩
theorem Fr.below {S0 : Nat} {L : Nat → Prop} {w w' : World} (h : Fr S0 L w w') (hs : S0 ≤ w.heap.size) : Below S0 w w' := Only.below h (fun _ q => q.1) hs
/-- Behind a call of the one. -/
theorem T1.step {S0 : Nat} {L : Nat → Prop} {w w' : World} {n' c : Nat} {A' : K → Option Int} {X : Nat → Prop} (h2 : ∀ j, X j → S0 ≤ j ∧ ¬ L j) (h3 : S0 ≤ w.heap.size) (h4 : ∀ j, L j → j < w.heap.size)
    (h : ∃ X', Tx w' c n' A' X' ∧ (∀ j, X' j → X j ∨ w.heap.size ≤ j) ∧ Only w w' X) : T1 S0 L w' c n' A' ∧ Fr S0 L w w' := by
  obtain ⟨X', g1, g2, g3⟩ := h
  refine ⟨⟨X', g1, fun j q => ?_, Nat.le_trans h3 g3.size, fun j q => Nat.lt_of_lt_of_le (h4 j q) g3.size⟩, g3.mono h2⟩
  rcases g2 j q with q | q
  · exact h2 j q
  · exact ⟨by omega, fun q' => by have := h4 j q'; omega⟩
theorem T2.step {S0 : Nat} {L : Nat → Prop} {w w' : World} {n' a b nb : Nat} {A' B : K → Option Int} {X : Nat → Prop} (h2 : ∀ j, X j → S0 ≤ j ∧ ¬ L j) (h3 : S0 ≤ w.heap.size) (h4 : ∀ j, L j → j < w.heap.size) (h5 : T1 S0 (fun j => L j ∨ X j) w b nb B)
    (h : ∃ X', Tx w' a n' A' X' ∧ (∀ j, X' j → X j ∨ w.heap.size ≤ j) ∧ Only w w' X) : T2 S0 L w' a b n' nb A' B ∧ Fr S0 L w w' := by
  obtain ⟨X', g1, g2, g3⟩ := h
  obtain ⟨Y, k1, k2, k3, k4⟩ := h5
  refine ⟨⟨X', g1, fun j q => ?_, Nat.le_trans h3 g3.size, fun j q => Nat.lt_of_lt_of_le (h4 j q) g3.size, Y, k1.kept g3 (fun j q q' => (k2 j q).2 (Or.inr q')), fun j q => ⟨(k2 j q).1, fun q' => ?_⟩, Nat.le_trans h3 g3.size, fun j q => ?_⟩, g3.mono h2⟩
  · rcases g2 j q with q | q
    · exact h2 j q
    · exact ⟨by omega, fun q' => by have := h4 j q'; omega⟩
  · rcases q' with q' | q'
    · exact (k2 j q).2 (Or.inl q')
    · rcases g2 j q' with q' | q'
      · exact (k2 j q).2 (Or.inr q')
      · have := k1.2 j q; omega
  · rcases q with q | q
    · exact Nat.lt_of_lt_of_le (h4 j q) g3.size
    · exact g1.2 j q

section
variable {S0 : Nat} {L : Nat → Prop}
theorem o_set (w : World) (c n : Nat) (A : K → Option Int) (k : K) (t : Int) (h : T1 S0 L w c n A) (hk : kw k) (ht : (Lit.int .i64 t).wf = true) (hn : n < 1073741823) (n' : Nat) (hn' : n' = if (A k).isSome then n else n + 1) :
    Calls Try.prog 16 #[.pointer (some ⟨c, 0, none⟩), kv k, .int .i64 t] w fun e w' => e = .returned (.tuple #[]) ∧ T1 S0 L w' c n' (updZ A k (some t)) ∧ Fr S0 L w w' := by
  obtain ⟨X, h1, h2, h3, h4⟩ := h
  refine (x_set w c n A X k t hk ht hn n' hn' h1).mono ?_
  rintro e w' ⟨rfl, g⟩
  exact ⟨rfl, T1.step h2 h3 h4 g⟩
theorem o_len (w : World) (c n : Nat) (A : K → Option Int) (h : T1 S0 L w c n A) :
    Calls Try.prog 17 #[.pointer (some ⟨c, 0, none⟩)] w fun e w' => e = .returned (.int .i64 (n : Int)) ∧ T1 S0 L w' c n A ∧ Fr S0 L w w' := by
  obtain ⟨X, h1, h2, h3, h4⟩ := h
  refine (x_len w c n A X h1).mono ?_
  rintro e w' ⟨rfl, g⟩
  exact ⟨rfl, T1.step h2 h3 h4 g⟩
theorem o_due (w : World) (c n : Nat) (A : K → Option Int) (now : Int) (hn : n < 1073741824) (h : T1 S0 L w c n A) :
    Calls Try.prog 15 #[.pointer (some ⟨c, 0, none⟩), .int .i64 now] w fun e w' => ∃ (sv : Value) (G : Option Nat) (m n' : Nat) (F : Nat → K) (B : K → Option Int), e = .returned sv ∧ Its kc 2 30 w' sv G m F ∧ Tk A now m F B ∧ (∀ k t, B k = some t → now < t) ∧ n = n' + m ∧ T1 S0 (fun j => L j ∨ G = some j) w' c n' B ∧ (∀ g, G = some g → w.heap.size ≤ g) ∧ Fr S0 L w w' := by
  obtain ⟨X, h1, h2, h3, h4⟩ := h
  refine (x_due w c n A X now hn h1).mono ?_
  rintro e w' ⟨sv, G, m, n', F, B, rfl, g1, g2, g3, g4, ⟨X', g5, g6, g7⟩, g8, g9⟩
  refine ⟨sv, G, m, n', F, B, rfl, g1, g2, g3, g4, ⟨X', g5, fun j q => ?_, Nat.le_trans h3 g9.size, fun j q => ?_⟩, g8, g9.mono h2⟩
  · rcases g6 j q with q' | q'
    · exact ⟨(h2 j q').1, fun q2 => q2.elim (h2 j q').2 (fun q2 => g7 j q2 q)⟩
    · exact ⟨by omega, fun q2 => q2.elim (fun q2 => by have := h4 j q2; omega) (fun q2 => g7 j q2 q)⟩
  · rcases q with q | q
    · exact Nat.lt_of_lt_of_le (h4 j q) g9.size
    · exact g1.lt j q
theorem p_set (w : World) (a b na nb : Nat) (A B : K → Option Int) (k : K) (t : Int) (h : T2 S0 L w a b na nb A B) (hk : kw k) (ht : (Lit.int .i64 t).wf = true) (hn : na < 1073741823) (n' : Nat) (hn' : n' = if (A k).isSome then na else na + 1) :
    Calls Try.prog 16 #[.pointer (some ⟨a, 0, none⟩), kv k, .int .i64 t] w fun e w' => e = .returned (.tuple #[]) ∧ T2 S0 L w' a b n' nb (updZ A k (some t)) B ∧ Fr S0 L w w' := by
  obtain ⟨X, h1, h2, h3, h4, h5⟩ := h
  refine (x_set w a na A X k t hk ht hn n' hn' h1).mono ?_
  rintro e w' ⟨rfl, g⟩
  exact ⟨rfl, T2.step h2 h3 h4 h5 g⟩
theorem p_len (w : World) (a b na nb : Nat) (A B : K → Option Int) (h : T2 S0 L w a b na nb A B) :
    Calls Try.prog 17 #[.pointer (some ⟨a, 0, none⟩)] w fun e w' => e = .returned (.int .i64 (na : Int)) ∧ T2 S0 L w' a b na nb A B ∧ Fr S0 L w w' := by
  obtain ⟨X, h1, h2, h3, h4, h5⟩ := h
  refine (x_len w a na A X h1).mono ?_
  rintro e w' ⟨rfl, g⟩
  exact ⟨rfl, T2.step h2 h3 h4 h5 g⟩
theorem p_next1 (w : World) (a b na nb : Nat) (A B : K → Option Int) (now : Int) (hn : na < 1073741824) (k : K) (t : Int) (hF : Fst A k t) (ht : t ≤ now) (n1 : Nat) (hn1 : na = n1 + 1) (h : T2 S0 L w a b na nb A B) :
    Calls Try.prog 14 #[.pointer (some ⟨a, 0, none⟩), .int .i64 now] w fun e w' => e = .returned (.tuple #[kv k, .bool true]) ∧ T2 S0 L w' a b n1 nb (updZ A k none) B ∧ Fr S0 L w w' := by
  obtain ⟨X, h1, h2, h3, h4, h5⟩ := h
  refine (x_next1 w a na A X now hn k t hF ht n1 hn1 h1).mono ?_
  rintro e w' ⟨rfl, g⟩
  exact ⟨rfl, T2.step h2 h3 h4 h5 g⟩
theorem p_due (w : World) (a b na nb : Nat) (A B : K → Option Int) (now : Int) (hn : na < 1073741824) (h : T2 S0 L w a b na nb A B) :
    Calls Try.prog 15 #[.pointer (some ⟨a, 0, none⟩), .int .i64 now] w fun e w' => ∃ (sv : Value) (G : Option Nat) (m n' : Nat) (F : Nat → K) (C : K → Option Int), e = .returned sv ∧ Its kc 2 30 w' sv G m F ∧ Tk A now m F C ∧ (∀ k t, C k = some t → now < t) ∧ na = n' + m ∧ T2 S0 (fun j => L j ∨ G = some j) w' a b n' nb C B ∧ (∀ g, G = some g → w.heap.size ≤ g) ∧ Fr S0 L w w' := by
  obtain ⟨X, h1, h2, h3, h4, Y, k1, k2, k3, k4⟩ := h
  refine (x_due w a na A X now hn h1).mono ?_
  rintro e w' ⟨sv, G, m, n', F, C, rfl, g1, g2, g3, g4, ⟨X', g5, g6, g7⟩, g8, g9⟩
  refine ⟨sv, G, m, n', F, C, rfl, g1, g2, g3, g4, ⟨X', g5, fun j q => ?_, Nat.le_trans h3 g9.size, fun j q => ?_, Y, k1.kept g9 (fun j q q' => (k2 j q).2 (Or.inr q')), fun j q => ⟨(k2 j q).1, fun q' => ?_⟩, Nat.le_trans h3 g9.size, fun j q => ?_⟩, g8, g9.mono h2⟩
  · rcases g6 j q with q' | q'
    · exact ⟨(h2 j q').1, fun q2 => q2.elim (h2 j q').2 (fun q2 => g7 j q2 q)⟩
    · exact ⟨by omega, fun q2 => q2.elim (fun q2 => by have := h4 j q2; omega) (fun q2 => g7 j q2 q)⟩
  · rcases q with q | q
    · exact Nat.lt_of_lt_of_le (h4 j q) g9.size
    · exact g1.lt j q
  · have hY := k1.2 j q
    rcases q' with (q' | q') | q'
    · exact (k2 j q).2 (Or.inl q')
    · have := g8 j q'; omega
    · rcases g6 j q' with q' | q'
      · exact (k2 j q).2 (Or.inr q')
      · omega
  · rcases q with (q | q) | q
    · exact Nat.lt_of_lt_of_le (h4 j q) g9.size
    · exact g1.lt j q
    · exact g5.2 j q
end
theorem o_new (w : World) : Calls Try.prog 11 #[] w fun e w' => e = .returned (.pointer (some ⟨w.heap.size, 0, none⟩)) ∧ T1 w.heap.size (fun _ => False) w' w.heap.size 0 (fun _ => none) ∧ Below w.heap.size w w' := by
  refine (x_new w).mono ?_
  rintro e w' ⟨rfl, h1, h2⟩
  exact ⟨rfl, ⟨_, h1, fun j q => ⟨by omega, fun q => q⟩, h2.size, fun _ q => q.elim⟩, h2⟩

/-! ### The example -/

def A3 : K → Option Int := updZ (updZ (updZ (fun _ => none) (1, 2) (some 5)) (1, 1) (some 5)) (0, 9) (some 7)
theorem A3_cases {k : K} {t : Int} (h : A3 k = some t) : (k = (0, 9) ∧ t = 7) ∨ (k = (1, 1) ∧ t = 5) ∨ (k = (1, 2) ∧ t = 5) := by
  unfold A3 at h
  by_cases e : k = (0, 9)
  · subst e; rw [updZ_same] at h; cases h; exact Or.inl ⟨rfl, rfl⟩
  · rw [updZ_ne _ _ e] at h
    by_cases e : k = (1, 1)
    · subst e; rw [updZ_same] at h; cases h; exact Or.inr (Or.inl ⟨rfl, rfl⟩)
    · rw [updZ_ne _ _ e] at h
      by_cases e : k = (1, 2)
      · subst e; rw [updZ_same] at h; cases h; exact Or.inr (Or.inr ⟨rfl, rfl⟩)
      · rw [updZ_ne _ _ e] at h; cases h
theorem A3_due {m : Nat} {F : Nat → K} {B : K → Option Int} (h : Tk A3 6 m F B) (hl : ∀ k t, B k = some t → 6 < t) : m = 2 ∧ F 0 = (1, 1) ∧ F 1 = (1, 2) := by
  have f1 : Fst A3 (1, 1) 5 := ⟨by decide, fun k t q => by rcases A3_cases q with ⟨rfl, rfl⟩ | ⟨rfl, rfl⟩ | ⟨rfl, rfl⟩ <;> decide⟩
  obtain ⟨m1, rfl, e1, h1⟩ := h.head hl f1 (by decide)
  have f2 : Fst (updZ A3 (1, 1) none) (1, 2) 5 := ⟨by decide, fun k t q => by
    by_cases e : k = (1, 1)
    · subst e; rw [updZ_same] at q; cases q
    · rw [updZ_ne _ _ e] at q
      rcases A3_cases q with ⟨rfl, rfl⟩ | ⟨rfl, rfl⟩ | ⟨rfl, rfl⟩
      · decide
      · exact absurd rfl e
      · decide⟩
  obtain ⟨m2, rfl, e2, h2⟩ := h1.head hl f2 (by decide)
  obtain ⟨rfl, _⟩ := h2.stop (fun k t q => by
    by_cases e : k = (1, 2)
    · subst e; rw [updZ_same] at q; cases q
    · rw [updZ_ne _ _ e] at q
      by_cases e' : k = (1, 1)
      · subst e'; rw [updZ_same] at q; cases q
      · rw [updZ_ne _ _ e'] at q
        rcases A3_cases q with ⟨rfl, rfl⟩ | ⟨rfl, rfl⟩ | ⟨rfl, rfl⟩
        · decide
        · exact absurd rfl e'
        · exact absurd rfl e)
  exact ⟨rfl, e1, e2⟩

set_option maxRecDepth 100000 in
set_option maxHeartbeats 1600000 in
theorem head14 (w : World) : Calls Try.prog 10 #[] w fun e w' => e = .returned (.bool true) ∧ Below w.heap.size w w' := by
  go_enter Try.func10, Try.ntmps10
  go_wp2_with fail
  refine (o_new w).mono ?_
  rintro e w1 ⟨rfl, h1, b1⟩
  go_wp2_with fail
  refine (o_set w1 w.heap.size 0 _ (1, 2) 5 h1 ⟨by decide, by decide⟩ (by decide) (by decide) 1 (by decide)).mono ?_
  rintro e w2 ⟨rfl, h2, o2⟩
  go_wp2_with fail
  refine (o_set w2 w.heap.size 1 _ (1, 1) 5 h2 ⟨by decide, by decide⟩ (by decide) (by decide) 2 (by decide)).mono ?_
  rintro e w3 ⟨rfl, h3, o3⟩
  go_wp2_with fail
  refine (o_set w3 w.heap.size 2 _ (0, 9) 7 h3 ⟨by decide, by decide⟩ (by decide) (by decide) 3 (by decide)).mono ?_
  rintro e w4 ⟨rfl, h4, o4⟩
  go_wp2_with fail
  refine (o_due w4 w.heap.size 3 A3 6 (by decide) h4).mono ?_
  rintro e w5 ⟨sv, G, m, n', F, B, rfl, its, hTk, hl, hnm, h5, hG, o5⟩
  obtain ⟨rfl, e0, e1⟩ := A3_due hTk hl
  obtain rfl : n' = 1 := by omega
  obtain ⟨g, cap, rfl, rfl, hrow⟩ := its.some_ (by decide)
  have x0 : w5.cell? ⟨g, 0, none⟩ = some (.int .i64 1) := hrow.cell (j := 0) (c := 0) (by decide) (by rw [e0]; rfl) rfl
  have x1 : w5.cell? ⟨g, 1, none⟩ = some (.int .i64 1) := hrow.cell (j := 0) (c := 1) (by decide) (by rw [e0]; rfl) rfl
  have x2 : w5.cell? ⟨g, 2, none⟩ = some (.int .i64 1) := hrow.cell (j := 1) (c := 0) (by decide) (by rw [e1]; rfl) rfl
  have x3 : w5.cell? ⟨g, 3, none⟩ = some (.int .i64 2) := hrow.cell (j := 1) (c := 1) (by decide) (by rw [e1]; rfl) rfl
  have b5 : Below w.heap.size w w5 := b1.trans (((Fr.below o2 b1.size).trans ((Fr.below o3 (Nat.le_trans b1.size o2.size)).trans ((Fr.below o4 (Nat.le_trans (Nat.le_trans b1.size o2.size) o3.size)).trans (Fr.below o5 (Nat.le_trans (Nat.le_trans (Nat.le_trans b1.size o2.size) o3.size) o4.size))))))
  clear hTk hl hnm e0 e1 h1 h2 h3 h4 o2 o3 o4 o5 b1 hG its
  go_wp2_with fail
  refine (o_len w5 w.heap.size 1 B h5).mono ?_
  rintro e w6 ⟨rfl, h6, o6⟩
  go_wp2_with fail
  go_ret
  exact ⟨rfl, b5.trans (Only.below o6 (fun _ q => q.1) b5.size)⟩
end Go.Proofs.Ytkldoeillkfpbaa.W.HT
