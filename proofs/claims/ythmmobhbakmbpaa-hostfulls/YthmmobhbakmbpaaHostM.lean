/- Plain words for package host: hosts as a function of their numbers; what each call answers and turns. -/
import Derived.Test.YthmmobhbakmbpaaPrt
import Derived.Test.YthmmobhbakmbpaaMp
namespace Go.Proofs.Ythmmobhbakmbpaa.W
open Go.RowKit

/-- A host: whether it drains, how much memory it has, how much of it is used. -/
abbrev Ht := Bool × Nat × Nat
/-- All within bounds. -/
def Hb (H : Int → Option Ht) : Prop := ∀ x d s u, H x = some (d, s, u) → 0 ≤ x ∧ x < 32 ∧ 1 ≤ s ∧ s ≤ 4096 ∧ u ≤ s
theorem Hb.zero : Hb (fun _ => none) := fun _ _ _ _ h => (nomatch h)
theorem Hb.put {H : Int → Option Ht} (h : Hb H) {x : Nat} {d : Bool} {s u : Nat} (hx : x < 32) (h1 : 1 ≤ s) (h2 : s ≤ 4096) (h3 : u ≤ s) : Hb (updZ H (x : Int) (some (d, s, u))) := by
  intro y d' s' u' q
  by_cases e : y = (x : Int)
  · subst e; rw [updZ_same] at q; cases q; omega
  · rw [updZ_ne _ _ e] at q; exact h y d' s' u' q
theorem Hb.gone {H : Int → Option Ht} (h : Hb H) (x : Int) : Hb (updZ H x none) := by
  intro y d' s' u' q
  by_cases e : y = x
  · subst e; rw [updZ_same] at q; cases q
  · rw [updZ_ne _ _ e] at q; exact h y d' s' u' q
theorem Hb.nat {H : Int → Option Ht} (h : Hb H) {x : Int} {d : Bool} {s u : Nat} (hx : H x = some (d, s, u)) : ∃ f : Nat, x = (f : Int) ∧ f < 32 :=
  ⟨x.toNat, by have := h x d s u hx; omega, by have := h x d s u hx; omega⟩
theorem updH_two {α : Type} (F : Int → Option α) (x : Int) (u v : Option α) : updZ (updZ F x u) x v = updZ F x v := updZ_twice F x u v

def isH (x : Int) : Bool := decide (0 ≤ x) && decide (x < 32)
theorem isH_iff {x : Int} : isH x = true ↔ 0 ≤ x ∧ x < 32 := by unfold isH; simp
theorem isH_nat {x : Int} (h : isH x = true) : ∃ a : Nat, x = (a : Int) ∧ a < 32 := ⟨x.toNat, by have := isH_iff.1 h; omega, by have := isH_iff.1 h; omega⟩
theorem isH_of {f : Nat} (h : f < 32) : isH (f : Int) = true := isH_iff.2 (by omega)
theorem Hb.no {H : Int → Option Ht} (h : Hb H) {x : Int} (hx : isH x = false) : H x = none := by
  cases q : H x with
  | none => rfl
  | some v =>
    obtain ⟨d, s, u⟩ := v
    have := h x d s u q
    rw [isH_iff.2 (by omega)] at hx; cases hx

def upB (H : Int → Option Ht) (x : Int) : Bool := match H x with | some (d, _, _) => !d | none => false
def fr (H : Int → Option Ht) (x : Int) : Int := match H x with | some (_, s, u) => (s : Int) - (u : Int) | none => 0
def addC (H : Int → Option Ht) (x n : Int) : Int := if isH x = false ∨ n < 1 ∨ 4096 < n then 1 else if (H x).isSome then 3 else 0
def addH (H : Int → Option Ht) (x n : Int) : Int → Option Ht := if addC H x n = 0 then updZ H x (some (false, n.toNat, 0)) else H
def drC (H : Int → Option Ht) (x : Int) : Int := match H x with | none => 2 | some (true, _, _) => 3 | some (false, _, _) => 0
/-- A host as it is when nothing more is done to it: one that drains, and of which nothing is used, is gone. -/
def lv (d : Bool) (s u : Nat) : Option Ht := if d = true ∧ u = 0 then none else some (d, s, u)
def drH (H : Int → Option Ht) (x : Int) : Int → Option Ht := match H x with | some (false, s, u) => updZ H x (lv true s u) | _ => H
def faC (H : Int → Option Ht) (x : Int) : Int := match H x with | none => 2 | some _ => 0
def tkB (H : Int → Option Ht) (x m : Int) : Bool := match H x with | some (false, s, u) => decide (0 ≤ m) && decide (m ≤ (s : Int) - (u : Int)) | _ => false
def tkH (H : Int → Option Ht) (x m : Int) : Int → Option Ht := match H x with | some (false, s, u) => if 0 ≤ m ∧ m ≤ (s : Int) - (u : Int) then updZ H x (some (false, s, u + m.toNat)) else H | _ => H
def gvB (H : Int → Option Ht) (x m : Int) : Bool := match H x with | some (_, _, u) => decide (0 ≤ m) && decide (m ≤ (u : Int)) | none => false
def gvH (H : Int → Option Ht) (x m : Int) : Int → Option Ht := match H x with | some (d, s, u) => if 0 ≤ m ∧ m ≤ (u : Int) then updZ H x (lv d s (u - m.toNat)) else H | none => H

/-- Whether so much memory goes to a host. -/
def fits (H : Int → Option Ht) (m : Int) (j : Nat) : Bool := upB H (j : Int) && decide (m ≤ fr H (j : Int))
/-- Of the first n hosts the one with the least room, and whether there is one. -/
def fitT (H : Int → Option Ht) (m : Int) : Nat → Nat × Bool
  | 0 => (0, false)
  | n + 1 => if fits H m n then (if (fitT H m n).2 = false ∨ fr H (n : Int) < fr H ((fitT H m n).1 : Int) then (n, true) else fitT H m n) else fitT H m n
theorem fitT_none (H : Int → Option Ht) (m : Int) : ∀ n, (fitT H m n).2 = false → (fitT H m n).1 = 0 ∧ ∀ j, j < n → fits H m j = false
  | 0, _ => ⟨rfl, fun j hj => by omega⟩
  | n + 1, h => by
    unfold fitT at h ⊢
    by_cases q : fits H m n = true
    · rw [if_pos q] at h
      by_cases e : (fitT H m n).2 = false ∨ fr H (n : Int) < fr H ((fitT H m n).1 : Int)
      · rw [if_pos e] at h; cases h
      · rw [if_neg e] at h; exact absurd (Or.inl h) e
    · rw [if_neg q] at h ⊢
      obtain ⟨h1, h2⟩ := fitT_none H m n h
      refine ⟨h1, fun j hj => ?_⟩
      by_cases e : j = n
      · subst e; simpa using q
      · exact h2 j (by omega)
theorem fitT_some (H : Int → Option Ht) (m : Int) : ∀ n, (fitT H m n).2 = true → (fitT H m n).1 < n ∧ fits H m (fitT H m n).1 = true ∧ ∀ j, j < n → fits H m j = true → fr H ((fitT H m n).1 : Int) ≤ fr H (j : Int) ∧ (fr H ((fitT H m n).1 : Int) = fr H (j : Int) → (fitT H m n).1 ≤ j)
  | 0, h => by cases h
  | n + 1, h => by
    unfold fitT at h ⊢
    by_cases q : fits H m n = true
    · rw [if_pos q] at h ⊢
      by_cases e : (fitT H m n).2 = false ∨ fr H (n : Int) < fr H ((fitT H m n).1 : Int)
      · rw [if_pos e]
        refine ⟨by simp, q, fun j hj hf => ?_⟩
        show fr H (n : Int) ≤ fr H (j : Int) ∧ (fr H (n : Int) = fr H (j : Int) → n ≤ j)
        by_cases ej : j = n
        · subst ej; exact ⟨Int.le_refl _, fun _ => Nat.le_refl _⟩
        · cases h2 : (fitT H m n).2 with
          | false => rw [(fitT_none H m n h2).2 j (by omega)] at hf; cases hf
          | true =>
            have := (fitT_some H m n h2).2.2 j (by omega) hf
            rcases e with e | e
            · rw [h2] at e; cases e
            · constructor
              · omega
              · intro; omega
      · rw [if_neg e] at h ⊢
        obtain ⟨h1, h2, h3⟩ := fitT_some H m n h
        refine ⟨by omega, h2, fun j hj hf => ?_⟩
        by_cases ej : j = n
        · subst ej
          have := fun q => e (Or.inr q)
          exact ⟨by omega, fun _ => by omega⟩
        · exact h3 j (by omega) hf
    · rw [if_neg q] at h ⊢
      obtain ⟨h1, h2, h3⟩ := fitT_some H m n h
      refine ⟨by omega, h2, fun j hj hf => ?_⟩
      by_cases ej : j = n
      · subst ej; exact absurd hf q
      · exact h3 j (by omega) hf
def fit (H : Int → Option Ht) (m : Int) : Nat × Bool := if m < 0 then (0, false) else fitT H m 32

/-- The cells of hosts. -/
def hcl (H : Int → Option Ht) (j : Nat) : Value :=
  if j % 4 = 0 then .bool (H ((j / 4 : Nat) : Int)).isSome
  else if j % 4 = 1 then .bool ((H ((j / 4 : Nat) : Int)).getD (false, 0, 0)).1
  else if j % 4 = 2 then .int .i64 ((((H ((j / 4 : Nat) : Int)).getD (false, 0, 0)).2.1 : Nat) : Int)
  else .int .i64 ((((H ((j / 4 : Nat) : Int)).getD (false, 0, 0)).2.2 : Nat) : Int)
theorem hcl_0 (H : Int → Option Ht) (f : Nat) : hcl H (f * 4) = .bool (H (f : Int)).isSome := by
  unfold hcl; rw [if_pos (by omega), show f * 4 / 4 = f by omega]
theorem hcl_1 (H : Int → Option Ht) (f : Nat) : hcl H (f * 4 + 1) = .bool ((H (f : Int)).getD (false, 0, 0)).1 := by
  unfold hcl; rw [if_neg (by omega), if_pos (by omega), show (f * 4 + 1) / 4 = f by omega]
theorem hcl_2 (H : Int → Option Ht) (f : Nat) : hcl H (f * 4 + 2) = .int .i64 ((((H (f : Int)).getD (false, 0, 0)).2.1 : Nat) : Int) := by
  unfold hcl; rw [if_neg (by omega), if_neg (by omega), if_pos (by omega), show (f * 4 + 2) / 4 = f by omega]
theorem hcl_3 (H : Int → Option Ht) (f : Nat) : hcl H (f * 4 + 3) = .int .i64 ((((H (f : Int)).getD (false, 0, 0)).2.2 : Nat) : Int) := by
  unfold hcl; rw [if_neg (by omega), if_neg (by omega), if_neg (by omega), show (f * 4 + 3) / 4 = f by omega]
def hro (H : Int → Option Ht) : List Value := (List.range 128).map (hcl H)
theorem hro_len (H : Int → Option Ht) : (hro H).length = 128 := by simp [hro]
theorem hro_at (H : Int → Option Ht) {j : Nat} (h : j < 128) : (hro H)[j]? = some (hcl H j) := by
  unfold hro; rw [List.getElem?_map, List.getElem?_range h]; rfl
theorem hro_zero : hro (fun _ => none) = (List.replicate 32 [Value.bool false, .bool false, .int .i64 0, .int .i64 0]).flatten := by kernel_rfl
theorem hro_set (H' : Int → Option Ht) : ∀ (vs : List Value) (k : Nat) (cur : List Value), cur.length = 128 → k + vs.length ≤ 128 →
    (∀ j, j < 128 → (k ≤ j ∧ j < k + vs.length → vs[j - k]? = some (hcl H' j)) ∧ (¬ (k ≤ j ∧ j < k + vs.length) → cur[j]? = some (hcl H' j))) → setQ cur k vs = hro H'
  | [], k, cur, hl, _, h => by
    rw [setQ]
    apply List.ext_getElem?
    intro j
    by_cases hj : j < 128
    · rw [hro_at H' hj]; exact (h j hj).2 (by simp)
    · rw [List.getElem?_eq_none (by omega), List.getElem?_eq_none (by rw [hro_len]; omega)]
  | v :: r, k, cur, hl, hk, h => by
    rw [setQ]
    refine hro_set H' r (k + 1) (cur.set k v) (by simpa using hl) (by simp at hk; omega) ?_
    intro j hj
    obtain ⟨h1, h2⟩ := h j hj
    simp only [List.length_cons] at h1 h2 hk
    constructor
    · intro q
      have := h1 (by omega)
      rw [show j - k = (j - (k + 1)) + 1 by omega] at this
      simpa using this
    · intro q
      by_cases e : j = k
      · subst e
        rw [List.getElem?_set_self (by omega)]
        have := h1 (by omega)
        simpa using this
      · rw [List.getElem?_set_ne (by omega)]
        exact h2 (by omega)
theorem hcl_far (H H' : Int → Option Ht) {j : Nat} (h : H' ((j / 4 : Nat) : Int) = H ((j / 4 : Nat) : Int)) : hcl H' j = hcl H j := by
  unfold hcl; rw [h]
/-- A host's cells. -/
def hts (o : Option Ht) : List Value := [.bool o.isSome, .bool (o.getD (false, 0, 0)).1, .int .i64 (((o.getD (false, 0, 0)).2.1 : Nat) : Int), .int .i64 (((o.getD (false, 0, 0)).2.2 : Nat) : Int)]
theorem hro_host (H : Int → Option Ht) {f : Nat} (o : Option Ht) (hf : f < 32) : setQ (hro H) (f * 4) (hts o) = hro (updZ H (f : Int) o) := by
  refine hro_set _ _ _ _ (hro_len H) (by simp [hts]; omega) ?_
  intro j hj
  constructor
  · intro q
    rcases (show j = f * 4 ∨ j = f * 4 + 1 ∨ j = f * 4 + 2 ∨ j = f * 4 + 3 by simp [hts] at q; omega) with rfl | rfl | rfl | rfl
    · rw [Nat.sub_self, hcl_0, updZ_same]; rfl
    · rw [Nat.add_sub_cancel_left, hcl_1, updZ_same]; rfl
    · rw [Nat.add_sub_cancel_left, hcl_2, updZ_same]; rfl
    · rw [Nat.add_sub_cancel_left, hcl_3, updZ_same]; rfl
  · intro q
    rw [hro_at H hj, hcl_far H _ (updZ_ne _ _ (by simp [hts] at q; omega))]
theorem hro_used (H : Int → Option Ht) {f : Nat} {d : Bool} {s u : Nat} (u' : Nat) (hf : f < 32) (h : H (f : Int) = some (d, s, u)) : (hro H).set (f * 4 + 3) (.int .i64 (u' : Int)) = hro (updZ H (f : Int) (some (d, s, u'))) := by
  show setQ (hro H) (f * 4 + 3) [.int .i64 (u' : Int)] = _
  refine hro_set _ [.int .i64 (u' : Int)] _ _ (hro_len H) (by simp; omega) ?_
  intro j hj
  constructor
  · intro q
    obtain rfl : j = f * 4 + 3 := by simp at q; omega
    rw [Nat.sub_self, hcl_3, updZ_same]; rfl
  · intro q
    rw [hro_at H hj]
    by_cases e : j / 4 = f
    · rcases (show j = f * 4 ∨ j = f * 4 + 1 ∨ j = f * 4 + 2 by simp at q; omega) with rfl | rfl | rfl
      · rw [hcl_0, hcl_0, updZ_same, h]; rfl
      · rw [hcl_1, hcl_1, updZ_same, h]; rfl
      · rw [hcl_2, hcl_2, updZ_same, h]; rfl
    · rw [hcl_far H _ (updZ_ne _ _ (by omega))]
theorem hro_drain (H : Int → Option Ht) {f : Nat} {d : Bool} {s u : Nat} (d' : Bool) (hf : f < 32) (h : H (f : Int) = some (d, s, u)) : (hro H).set (f * 4 + 1) (.bool d') = hro (updZ H (f : Int) (some (d', s, u))) := by
  show setQ (hro H) (f * 4 + 1) [.bool d'] = _
  refine hro_set _ [.bool d'] _ _ (hro_len H) (by simp; omega) ?_
  intro j hj
  constructor
  · intro q
    obtain rfl : j = f * 4 + 1 := by simp at q; omega
    rw [Nat.sub_self, hcl_1, updZ_same]; rfl
  · intro q
    rw [hro_at H hj]
    by_cases e : j / 4 = f
    · rcases (show j = f * 4 ∨ j = f * 4 + 2 ∨ j = f * 4 + 3 by simp at q; omega) with rfl | rfl | rfl
      · rw [hcl_0, hcl_0, updZ_same, h]; rfl
      · rw [hcl_2, hcl_2, updZ_same, h]; rfl
      · rw [hcl_3, hcl_3, updZ_same, h]; rfl
    · rw [hcl_far H _ (updZ_ne _ _ (by omega))]
end Go.Proofs.Ythmmobhbakmbpaa.W
