/- Plain words for package quota: accounts and functions as functions of their numbers, sums over functions, what is answered. -/
import Derived.Test.YtancebpkiioaiaaBlk
import Derived.Test.YtancebpkiioaiaaMp
namespace Go.Proofs.Ytancebpkiioaiaa.W
open Go.RowKit

def sumN (g : Nat → Nat) : Nat → Nat
  | 0 => 0
  | n + 1 => sumN g n + g n
theorem sumN_ext {g h : Nat → Nat} : ∀ {n : Nat}, (∀ j, j < n → g j = h j) → sumN g n = sumN h n
  | 0, _ => rfl
  | n + 1, q => by unfold sumN; rw [sumN_ext (n := n) (fun j hj => q j (by omega)), q n (by omega)]
theorem sumN_le {g h : Nat → Nat} : ∀ {n : Nat}, (∀ j, j < n → g j ≤ h j) → sumN g n ≤ sumN h n
  | 0, _ => Nat.le_refl _
  | n + 1, q => by unfold sumN; have := sumN_le (n := n) (fun j hj => q j (by omega)); have := q n (by omega); omega
theorem sumN_lt {g h : Nat → Nat} {x : Nat} (hx : g x < h x) : ∀ {n : Nat}, x < n → (∀ j, j < n → g j ≤ h j) → sumN g n < sumN h n
  | 0, h0, _ => by omega
  | n + 1, h0, q => by
    unfold sumN
    by_cases e : x = n
    · subst e; have := sumN_le (n := x) (fun j hj => q j (by omega)); omega
    · have := sumN_lt hx (n := n) (by omega) (fun j hj => q j (by omega)); have := q n (by omega); omega
theorem sumN_add (g h : Nat → Nat) : ∀ n, sumN (fun j => g j + h j) n = sumN g n + sumN h n
  | 0 => rfl
  | n + 1 => by unfold sumN; rw [sumN_add g h n]; omega
theorem sumN_bound {g : Nat → Nat} {c : Nat} (h : ∀ j, g j ≤ c) : ∀ n, sumN g n ≤ n * c
  | 0 => by simp [sumN]
  | n + 1 => by unfold sumN; have := sumN_bound h n; have := h n; rw [Nat.succ_mul]; omega
theorem sumN_zero {g : Nat → Nat} : ∀ {n : Nat}, (∀ j, j < n → g j = 0) → sumN g n = 0
  | 0, _ => rfl
  | n + 1, q => by unfold sumN; rw [sumN_zero (n := n) (fun j hj => q j (by omega)), q n (by omega)]
theorem sumN_upd {g g' : Nat → Nat} {x : Nat} (h : ∀ j, j ≠ x → g' j = g j) : ∀ {n : Nat}, x < n → sumN g' n + g x = sumN g n + g' x
  | 0, h0 => by omega
  | n + 1, h0 => by
    unfold sumN
    by_cases e : x = n
    · subst e; rw [sumN_ext (n := x) (fun j hj => h j (by omega))]; omega
    · have := sumN_upd h (n := n) (by omega); rw [h n (by omega)]; omega
theorem sumN_one {g : Nat → Nat} {x : Nat} (h : ∀ j, j ≠ x → g j = 0) {n : Nat} (hx : x < n) : sumN g n = g x := by
  have := sumN_upd (g := fun _ => 0) (g' := g) (x := x) h hx
  rw [sumN_zero (g := fun _ => 0) (fun _ _ => rfl)] at this; omega
theorem sumN_cut {g : Nat → Nat} : ∀ {n m : Nat}, m ≤ n → (∀ j, m ≤ j → j < n → g j = 0) → sumN g n = sumN g m
  | 0, m, h, _ => by obtain rfl : m = 0 := by omega
                     rfl
  | n + 1, m, h, q => by
    by_cases e : m = n + 1
    · rw [e]
    · rw [show sumN g (n + 1) = sumN g n + g n from rfl, q n (by omega) (by omega), Nat.add_zero]
      exact sumN_cut (n := n) (by omega) (fun j h1 h2 => q j h1 (by omega))

/-- A function: whose it is, how many are reserved, how many run. -/
abbrev Fn := Nat × Nat × Nat
def gR (F : Int → Option Fn) (a : Int) (j : Nat) : Nat := match F (j : Int) with | some (o, r, _) => if (o : Int) = a then r else 0 | none => 0
def gB (F : Int → Option Fn) (a : Int) (j : Nat) : Nat := match F (j : Int) with | some (o, _, b) => if (o : Int) = a then b else 0 | none => 0
def gO (F : Int → Option Fn) (a : Int) (j : Nat) : Nat := match F (j : Int) with | some (o, r, b) => if (o : Int) = a ∧ r = 0 then b else 0 | none => 0
def sR (F : Int → Option Fn) (a : Int) : Nat := sumN (gR F a) 64
def sB (F : Int → Option Fn) (a : Int) : Nat := sumN (gB F a) 64
def sO (F : Int → Option Fn) (a : Int) : Nat := sumN (gO F a) 64
theorem gR_none {F : Int → Option Fn} {a : Int} {j : Nat} (h : F (j : Int) = none) : gR F a j = 0 := by unfold gR; rw [h]
theorem gB_none {F : Int → Option Fn} {a : Int} {j : Nat} (h : F (j : Int) = none) : gB F a j = 0 := by unfold gB; rw [h]
theorem gO_none {F : Int → Option Fn} {a : Int} {j : Nat} (h : F (j : Int) = none) : gO F a j = 0 := by unfold gO; rw [h]
theorem gR_some {F : Int → Option Fn} {a : Int} {j o r b : Nat} (h : F (j : Int) = some (o, r, b)) : gR F a j = if (o : Int) = a then r else 0 := by unfold gR; rw [h]
theorem gB_some {F : Int → Option Fn} {a : Int} {j o r b : Nat} (h : F (j : Int) = some (o, r, b)) : gB F a j = if (o : Int) = a then b else 0 := by unfold gB; rw [h]
theorem gO_some {F : Int → Option Fn} {a : Int} {j o r b : Nat} (h : F (j : Int) = some (o, r, b)) : gO F a j = if (o : Int) = a ∧ r = 0 then b else 0 := by unfold gO; rw [h]
theorem nat_ne {j f : Nat} (h : j ≠ f) : (j : Int) ≠ (f : Int) := by omega
theorem gR_ne {F : Int → Option Fn} {a : Int} {f : Nat} {v : Option Fn} {j : Nat} (h : j ≠ f) : gR (updZ F (f : Int) v) a j = gR F a j := by unfold gR; rw [updZ_ne _ _ (nat_ne h)]
theorem gB_ne {F : Int → Option Fn} {a : Int} {f : Nat} {v : Option Fn} {j : Nat} (h : j ≠ f) : gB (updZ F (f : Int) v) a j = gB F a j := by unfold gB; rw [updZ_ne _ _ (nat_ne h)]
theorem gO_ne {F : Int → Option Fn} {a : Int} {f : Nat} {v : Option Fn} {j : Nat} (h : j ≠ f) : gO (updZ F (f : Int) v) a j = gO F a j := by unfold gO; rw [updZ_ne _ _ (nat_ne h)]
theorem gR_same {F : Int → Option Fn} {a : Int} {f o r b : Nat} : gR (updZ F (f : Int) (some (o, r, b))) a f = if (o : Int) = a then r else 0 := gR_some (updZ_same _ _ _)
theorem gB_same {F : Int → Option Fn} {a : Int} {f o r b : Nat} : gB (updZ F (f : Int) (some (o, r, b))) a f = if (o : Int) = a then b else 0 := gB_some (b := b) (updZ_same _ _ _)
theorem gO_same {F : Int → Option Fn} {a : Int} {f o r b : Nat} : gO (updZ F (f : Int) (some (o, r, b))) a f = if (o : Int) = a ∧ r = 0 then b else 0 := gO_some (updZ_same _ _ _)

/-- All numbers are within their bounds. -/
structure Ab (A : Int → Option Nat) (F : Int → Option Fn) : Prop where
  a0 : ∀ x n, A x = some n → 0 ≤ x ∧ x < 16 ∧ n ≤ 1000
  f0 : ∀ x o r b, F x = some (o, r, b) → 0 ≤ x ∧ x < 64 ∧ o < 16 ∧ r ≤ 1000 ∧ b ≤ 1000
theorem Ab.zero : Ab (fun _ => none) (fun _ => none) := ⟨fun _ _ h => (nomatch h), fun _ _ _ _ h => (nomatch h)⟩
theorem Ab.account {A : Int → Option Nat} {F : Int → Option Fn} (h : Ab A F) {x n : Nat} (hx : x < 16) (hn : n ≤ 1000) : Ab (updZ A (x : Int) (some n)) F := by
  refine ⟨fun y m q => ?_, h.f0⟩
  by_cases e : y = (x : Int)
  · subst e; rw [updZ_same] at q; cases q; omega
  · rw [updZ_ne _ _ e] at q; exact h.a0 y m q
theorem Ab.func {A : Int → Option Nat} {F : Int → Option Fn} (h : Ab A F) {f o r b : Nat} (hf : f < 64) (ho : o < 16) (hr : r ≤ 1000) (hb : b ≤ 1000) : Ab A (updZ F (f : Int) (some (o, r, b))) := by
  refine ⟨h.a0, fun y o' r' b' q => ?_⟩
  by_cases e : y = (f : Int)
  · subst e; rw [updZ_same] at q; cases q; omega
  · rw [updZ_ne _ _ e] at q; exact h.f0 y o' r' b' q
theorem Ab.gR {A : Int → Option Nat} {F : Int → Option Fn} (h : Ab A F) (a : Int) (j : Nat) : gR F a j ≤ 1000 := by
  cases q : F (j : Int) with
  | none => rw [gR_none q]; omega
  | some v => obtain ⟨o, r, b⟩ := v; have := h.f0 _ _ _ _ q; rw [gR_some q]; split <;> omega
theorem Ab.gB {A : Int → Option Nat} {F : Int → Option Fn} (h : Ab A F) (a : Int) (j : Nat) : gB F a j ≤ 1000 := by
  cases q : F (j : Int) with
  | none => rw [gB_none q]; omega
  | some v => obtain ⟨o, r, b⟩ := v; have := h.f0 _ _ _ _ q; rw [gB_some q]; split <;> omega
theorem Ab.gO {A : Int → Option Nat} {F : Int → Option Fn} (h : Ab A F) (a : Int) (j : Nat) : gO F a j ≤ 1000 := by
  cases q : F (j : Int) with
  | none => rw [gO_none q]; omega
  | some v => obtain ⟨o, r, b⟩ := v; have := h.f0 _ _ _ _ q; rw [gO_some q]; split <;> omega
theorem Ab.sR {A : Int → Option Nat} {F : Int → Option Fn} (h : Ab A F) (a : Int) : sR F a ≤ 64000 := sumN_bound (h.gR a) 64
theorem Ab.sB {A : Int → Option Nat} {F : Int → Option Fn} (h : Ab A F) (a : Int) : sB F a ≤ 64000 := sumN_bound (h.gB a) 64
theorem Ab.sO {A : Int → Option Nat} {F : Int → Option Fn} (h : Ab A F) (a : Int) : sO F a ≤ 64000 := sumN_bound (h.gO a) 64
/-- What is reserved for one is part of what is reserved of its account. -/
theorem gR_le_sR {F : Int → Option Fn} {f o r b : Nat} (hf : f < 64) (h : F (f : Int) = some (o, r, b)) : r ≤ sR F (o : Int) := by
  have := sumN_upd (g := gR F (o : Int)) (g' := fun j => if j = f then 0 else gR F (o : Int) j) (x := f) (fun j hj => if_neg hj) hf
  simp only [if_true] at this
  rw [gR_some h, if_pos rfl] at this
  unfold sR; omega
theorem gB_le_sB {F : Int → Option Fn} {f o r b : Nat} (hf : f < 64) (h : F (f : Int) = some (o, r, b)) : b ≤ sB F (o : Int) := by
  have := sumN_upd (g := gB F (o : Int)) (g' := fun j => if j = f then 0 else gB F (o : Int) j) (x := f) (fun j hj => if_neg hj) hf
  simp only [if_true] at this
  rw [gB_some h, if_pos rfl] at this
  unfold sB; omega

/-- What is answered: whether a number may be an account's, a function's, a count. -/
def isA (x : Int) : Bool := decide (0 ≤ x) && decide (x < 16)
def isF (x : Int) : Bool := decide (0 ≤ x) && decide (x < 64)
def isC (x : Int) : Bool := decide (0 ≤ x) && decide (x ≤ 1000)
theorem isA_iff {x : Int} : isA x = true ↔ 0 ≤ x ∧ x < 16 := by simp [isA]
theorem isF_iff {x : Int} : isF x = true ↔ 0 ≤ x ∧ x < 64 := by simp [isF]
theorem isC_iff {x : Int} : isC x = true ↔ 0 ≤ x ∧ x ≤ 1000 := by simp [isC]
theorem isA_nat {x : Int} (h : isA x = true) : ∃ a : Nat, x = (a : Int) ∧ a < 16 := ⟨x.toNat, by have := isA_iff.1 h; omega, by have := isA_iff.1 h; omega⟩
theorem isF_nat {x : Int} (h : isF x = true) : ∃ a : Nat, x = (a : Int) ∧ a < 64 := ⟨x.toNat, by have := isF_iff.1 h; omega, by have := isF_iff.1 h; omega⟩
theorem isC_nat {x : Int} (h : isC x = true) : ∃ a : Nat, x = (a : Int) ∧ a ≤ 1000 := ⟨x.toNat, by have := isC_iff.1 h; omega, by have := isC_iff.1 h; omega⟩
theorem Ab.noF {A : Int → Option Nat} {F : Int → Option Fn} (h : Ab A F) {x : Int} (hx : isF x = false) : F x = none := by
  cases q : F x with
  | none => rfl
  | some v => obtain ⟨o, r, b⟩ := v; have := h.f0 _ _ _ _ q; rw [isF_iff.2 (by omega)] at hx; cases hx
theorem Ab.noA {A : Int → Option Nat} {F : Int → Option Fn} (h : Ab A F) {x : Int} (hx : isA x = false) : A x = none := by
  cases q : A x with
  | none => rfl
  | some v => have := h.a0 _ _ q; rw [isA_iff.2 (by omega)] at hx; cases hx

/-- The answer of SetAccount; 0: it was done. -/
def accC (F : Int → Option Fn) (x n : Int) : Nat := if isA x && isC n then (if n < (sR F x : Int) then 4 else 0) else 1
def accA (A : Int → Option Nat) (F : Int → Option Fn) (x n : Int) : Int → Option Nat := if accC F x n = 0 then updZ A x (some n.toNat) else A
/-- The answer of SetFunc. -/
def funC (A : Int → Option Nat) (F : Int → Option Fn) (f x n : Int) : Nat :=
  if isF f && isA x && isC n then
    match A x with
    | none => 2
    | some lim => match F f with
      | some (o, r, _) => if (o : Int) = x then (if (lim : Int) < (sR F x : Int) - (r : Int) + n then 4 else 0) else 3
      | none => if (lim : Int) < (sR F x : Int) + n then 4 else 0
  else 1
def funF (A : Int → Option Nat) (F : Int → Option Fn) (f x n : Int) : Int → Option Fn :=
  if funC A F f x n = 0 then updZ F f (some (x.toNat, n.toNat, ((F f).getD (0, 0, 0)).2.2)) else F
/-- The answer of Ask. -/
def askC (A : Int → Option Nat) (F : Int → Option Fn) (f : Int) : Nat × Bool :=
  match F f with
  | none => (0, false)
  | some (o, r, b) => if 0 < r ∧ r ≤ b then (1, true) else
      if ((A (o : Int)).getD 0 : Nat) ≤ sB F (o : Int) ∨ (r = 0 ∧ ((A (o : Int)).getD 0 : Nat) ≤ sO F (o : Int) + sR F (o : Int)) then (2, true) else (0, true)
def mayB (A : Int → Option Nat) (F : Int → Option Fn) (f : Int) : Bool := (askC A F f).2 && decide ((askC A F f).1 = 0)
def busy (F : Int → Option Fn) (f : Int) : Nat := ((F f).getD (0, 0, 0)).2.2
def begF (A : Int → Option Nat) (F : Int → Option Fn) (f : Int) : Int → Option Fn :=
  if mayB A F f then updZ F f ((F f).map (fun v => (v.1, v.2.1, v.2.2 + 1))) else F
def endF (F : Int → Option Fn) (f : Int) : Int → Option Fn :=
  if 0 < busy F f then updZ F f ((F f).map (fun v => (v.1, v.2.1, v.2.2 - 1))) else F
end Go.Proofs.Ytancebpkiioaiaa.W
