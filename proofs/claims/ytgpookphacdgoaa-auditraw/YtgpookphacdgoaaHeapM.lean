/- Heaps as lists of items with one place free: plain arithmetic, whatever the program. -/
import Derived.Maps.Own
namespace Go.Proofs.Ytgpookphacdgoaa.W

/-- An order of values: of those that are 'ok'. -/
structure Odr {V : Type} (lt : V → V → Bool) (ok : V → Prop) : Prop where
  asym : ∀ a b, ok a → ok b → lt a b = true → lt b a = false
  ntr : ∀ a b c, ok a → ok b → ok c → lt a b = false → lt b c = false → lt a c = false

theorem Odr.irr {V : Type} {lt : V → V → Bool} {ok : V → Prop} (O : Odr lt ok) (a : V) (h : ok a) : lt a a = false := by
  by_cases e : lt a a = true
  · exact O.asym a a h h e
  · simpa using e

def par (i : Nat) : Nat := (i - 1) / 2
theorem par_lt {i : Nat} (h : 0 < i) : par i < i := by unfold par; omega
def upd {α : Type} (f : Nat → α) (i : Nat) (a : α) : Nat → α := fun j => if j = i then a else f j
theorem upd_same {α : Type} (f : Nat → α) (i : Nat) (a : α) : upd f i a i = a := by simp [upd]
theorem upd_ne {α : Type} (f : Nat → α) {i j : Nat} (a : α) (h : j ≠ i) : upd f i a j = f j := by simp [upd, h]
def updZ {α : Type} (f : Int → Option α) (i : Int) (a : Option α) : Int → Option α := fun j => if j = i then a else f j
theorem updZ_same {α : Type} (f : Int → Option α) (i : Int) (a : Option α) : updZ f i a i = a := by simp [updZ]
theorem updZ_ne {α : Type} (f : Int → Option α) {i j : Int} (a : Option α) (h : j ≠ i) : updZ f i a j = f j := by simp [updZ, h]
theorem updZ_twice {α : Type} (f : Int → Option α) (i : Int) (a b : Option α) : updZ (updZ f i a) i b = updZ f i b := by
  funext j; unfold updZ; split <;> rfl

variable {V : Type} {lt : V → V → Bool} {ok : V → Prop}

/-- n items of which the place i is free, in order but for that. -/
structure Hole (lt : V → V → Bool) (ok : V → Prop) (n : Nat) (T : Nat → Int × V) (i : Nat) : Prop where
  lt_n : i < n
  okV : ∀ j, j < n → j ≠ i → ok (T j).2
  ord : ∀ j, 0 < j → j < n → j ≠ i → par j ≠ i → lt (T j).2 (T (par j)).2 = false
  skip : ∀ j, 0 < j → j < n → par j = i → 0 < i → lt (T j).2 (T (par i)).2 = false

/-- Where the keys are, and what is there, but for the free place, which is for the key k0. -/
structure Pl (n : Nat) (T : Nat → Int × V) (i : Nat) (k0 : Int) (M : Int → Option Nat) (A : Int → Option V) : Prop where
  nk : ∀ j, j < n → j ≠ i → (T j).1 ≠ k0
  inj : ∀ j k, j < n → k < n → j ≠ i → k ≠ i → (T j).1 = (T k).1 → j = k
  at_ : ∀ k, k ≠ k0 → ∀ j, M k = some j ↔ (j < n ∧ j ≠ i ∧ (T j).1 = k)
  con : ∀ k v, A k = some v ↔ ∃ j, j < n ∧ j ≠ i ∧ T j = (k, v)

/-- All in order. -/
structure Full (lt : V → V → Bool) (ok : V → Prop) (n : Nat) (T : Nat → Int × V) (M : Int → Option Nat) (A : Int → Option V) : Prop where
  okV : ∀ j, j < n → ok (T j).2
  ord : ∀ j, 0 < j → j < n → lt (T j).2 (T (par j)).2 = false
  inj : ∀ j k, j < n → k < n → (T j).1 = (T k).1 → j = k
  at_ : ∀ k j, M k = some j ↔ (j < n ∧ (T j).1 = k)
  con : ∀ k v, A k = some v ↔ ∃ j, j < n ∧ T j = (k, v)

theorem Full.empty (T : Nat → Int × V) : Full lt ok 0 T (fun _ => none) (fun _ => none) :=
  ⟨fun j h => absurd h (by omega), fun j _ h => absurd h (by omega), fun j k h => absurd h (by omega), fun k j => by simp, fun k v => by simp⟩

theorem Full.get {n : Nat} {T : Nat → Int × V} {M : Int → Option Nat} {A : Int → Option V} (h : Full lt ok n T M A) {k : Int} {j : Nat} (hj : M k = some j) : j < n ∧ A k = some (T j).2 ∧ (T j).1 = k := by
  obtain ⟨h1, h2⟩ := (h.at_ k j).1 hj
  exact ⟨h1, (h.con _ _).2 ⟨j, h1, by rw [← h2]⟩, h2⟩
theorem Full.isnone {n : Nat} {T : Nat → Int × V} {M : Int → Option Nat} {A : Int → Option V} (h : Full lt ok n T M A) {k : Int} (hj : M k = none) : A k = none := by
  cases e : A k with
  | none => rfl
  | some v =>
    obtain ⟨j, h1, h2⟩ := (h.con _ _).1 e
    have := (h.at_ k j).2 ⟨h1, by rw [h2]⟩
    rw [hj] at this; cases this

/-- The free place goes to p, whose item comes to i. -/
theorem Pl.move {n : Nat} {T : Nat → Int × V} {i p : Nat} {k0 : Int} {M : Int → Option Nat} {A : Int → Option V} (h : Pl n T i k0 M A) (hi : i < n) (hp : p < n) (hpi : p ≠ i) :
    Pl n (upd T i (T p)) p k0 (updZ M (T p).1 (some i)) A where
  nk := by
    intro j hj hjp
    by_cases e : j = i
    · subst e; rw [upd_same]; exact h.nk p hp hpi
    · rw [upd_ne _ _ e]; exact h.nk j hj e
  inj := by
    intro j k hj hk hjp hkp hjk
    by_cases e : j = i <;> by_cases e' : k = i
    · omega
    · subst e; rw [upd_same, upd_ne _ _ e'] at hjk
      exact absurd (h.inj p k hp hk hpi e' hjk).symm hkp
    · subst e'; rw [upd_same, upd_ne _ _ e] at hjk
      exact absurd (h.inj j p hj hp e hpi hjk) hjp
    · rw [upd_ne _ _ e, upd_ne _ _ e'] at hjk; exact h.inj j k hj hk e e' hjk
  at_ := by
    intro k hk j
    by_cases e : k = (T p).1
    · subst e
      rw [updZ_same]
      constructor
      · intro q; cases q; exact ⟨hi, fun q => hpi q.symm, by rw [upd_same]⟩
      · rintro ⟨h1, h2, h3⟩
        by_cases e' : j = i
        · rw [e']
        · rw [upd_ne _ _ e'] at h3; exact absurd (h.inj j p h1 hp e' hpi h3) h2
    · rw [updZ_ne _ _ e, h.at_ k hk j]
      constructor
      · rintro ⟨h1, h2, h3⟩
        refine ⟨h1, fun q => ?_, by rw [upd_ne _ _ h2]; exact h3⟩
        subst q; exact e h3.symm
      · rintro ⟨h1, h2, h3⟩
        by_cases e' : j = i
        · subst e'; rw [upd_same] at h3; exact absurd h3.symm e
        · rw [upd_ne _ _ e'] at h3; exact ⟨h1, e', h3⟩
  con := by
    intro k v
    rw [h.con]
    constructor
    · rintro ⟨j, h1, h2, h3⟩
      by_cases e : j = p
      · subst e; exact ⟨i, hi, fun q => hpi q.symm, by rw [upd_same]; exact h3⟩
      · exact ⟨j, h1, e, by rw [upd_ne _ _ h2]; exact h3⟩
    · rintro ⟨j, h1, h2, h3⟩
      by_cases e : j = i
      · subst e; rw [upd_same] at h3; exact ⟨p, hp, hpi, h3⟩
      · rw [upd_ne _ _ e] at h3; exact ⟨j, h1, e, h3⟩

/-- One level up. -/
theorem Hole.up {n : Nat} {T : Nat → Int × V} {i : Nat} (O : Odr lt ok) (h : Hole lt ok n T i) (hi : 0 < i) : Hole lt ok n (upd T i (T (par i))) (par i) := by
  have hp := par_lt hi
  have hpn : par i < n := Nat.lt_trans hp h.lt_n
  have hpi : par i ≠ i := Nat.ne_of_lt hp
  have okp := h.okV (par i) hpn hpi
  refine ⟨hpn, ?_, ?_, ?_⟩
  · intro j hj hjp
    by_cases e : j = i
    · subst e; rw [upd_same]; exact okp
    · rw [upd_ne _ _ e]; exact h.okV j hj e
  · intro j h0 hj hjp hpj
    have e : j ≠ i := fun e => hpj (by rw [e])
    rw [upd_ne _ _ e]
    by_cases e' : par j = i
    · rw [e', upd_same]; exact h.skip j h0 hj e' hi
    · rw [upd_ne _ _ e']; exact h.ord j h0 hj e e'
  · intro j h0 hj hpj hp0
    have hpp : par (par i) ≠ i := fun q => by have := par_lt hp0; omega
    rw [upd_ne _ _ hpp]
    have a1 := h.ord (par i) hp0 hpn hpi (fun q => by have := par_lt hp0; omega)
    by_cases e : j = i
    · rw [e, upd_same]; exact a1
    · rw [upd_ne _ _ e]
      have a2 := h.ord j h0 hj e (by rw [hpj]; exact hpi)
      rw [hpj] at a2
      exact O.ntr _ _ _ (h.okV j hj e) okp (h.okV _ (by have := par_lt hp0; omega) hpp) a2 a1

/-- One level down, to the lesser child. -/
theorem Hole.down {n : Nat} {T : Nat → Int × V} {i c : Nat} (h : Hole lt ok n T i) (hc0 : 0 < c) (hc : c < n) (hpc : par c = i)
    (hmin : ∀ j, 0 < j → j < n → par j = i → lt (T j).2 (T c).2 = false) : Hole lt ok n (upd T i (T c)) c := by
  have hic : i < c := by rw [← hpc]; exact par_lt hc0
  have hci : c ≠ i := by omega
  refine ⟨hc, ?_, ?_, ?_⟩
  · intro j hj hjc
    by_cases e : j = i
    · subst e; rw [upd_same]; exact h.okV c hc hci
    · rw [upd_ne _ _ e]; exact h.okV j hj e
  · intro j h0 hj hjc hpj
    by_cases e : j = i
    · subst e
      rw [upd_same, upd_ne _ _ (by have := par_lt h0; omega)]
      exact h.skip c hc0 hc hpc h0
    · rw [upd_ne _ _ e]
      by_cases e' : par j = i
      · rw [e', upd_same]; exact hmin j h0 hj e'
      · rw [upd_ne _ _ e']; exact h.ord j h0 hj e e'
  · intro j h0 hj hpj _
    have e : j ≠ i := by intro q; have := par_lt h0; omega
    rw [upd_ne _ _ e, hpc, upd_same]
    have := h.ord j h0 hj e (by rw [hpj]; exact hci)
    rw [hpj] at this; exact this

/-- The item comes to the free place. -/
theorem Hole.fill {n : Nat} {T : Nat → Int × V} {i : Nat} {k0 : Int} {v : V} {M : Int → Option Nat} {A : Int → Option V} (h : Hole lt ok n T i) (g : Pl n T i k0 M A) (hv : ok v)
    (hup : 0 < i → lt v (T (par i)).2 = false) (hdn : ∀ j, 0 < j → j < n → par j = i → lt (T j).2 v = false) :
    Full lt ok n (upd T i (k0, v)) (updZ M k0 (some i)) (updZ A k0 (some v)) where
  okV := by
    intro j hj
    by_cases e : j = i
    · subst e; rw [upd_same]; exact hv
    · rw [upd_ne _ _ e]; exact h.okV j hj e
  ord := by
    intro j h0 hj
    have := par_lt h0
    by_cases e : j = i
    · subst e; rw [upd_same, upd_ne _ _ (by omega)]; exact hup h0
    · rw [upd_ne _ _ e]
      by_cases e' : par j = i
      · rw [e', upd_same]; exact hdn j h0 hj e'
      · rw [upd_ne _ _ e']; exact h.ord j h0 hj e e'
  inj := by
    intro j k hj hk hjk
    by_cases e : j = i <;> by_cases e' : k = i
    · omega
    · subst e; rw [upd_same, upd_ne _ _ e'] at hjk; exact absurd hjk.symm (g.nk k hk e')
    · subst e'; rw [upd_same, upd_ne _ _ e] at hjk; exact absurd hjk (g.nk j hj e)
    · rw [upd_ne _ _ e, upd_ne _ _ e'] at hjk; exact g.inj j k hj hk e e' hjk
  at_ := by
    intro k j
    by_cases e : k = k0
    · subst e; rw [updZ_same]
      constructor
      · intro q; cases q; exact ⟨h.lt_n, by rw [upd_same]⟩
      · rintro ⟨h1, h2⟩
        by_cases e' : j = i
        · rw [e']
        · rw [upd_ne _ _ e'] at h2; exact absurd h2 (g.nk j h1 e')
    · rw [updZ_ne _ _ e, g.at_ k e j]
      constructor
      · rintro ⟨h1, h2, h3⟩; exact ⟨h1, by rw [upd_ne _ _ h2]; exact h3⟩
      · rintro ⟨h1, h2⟩
        by_cases e' : j = i
        · subst e'; rw [upd_same] at h2; exact absurd h2.symm e
        · rw [upd_ne _ _ e'] at h2; exact ⟨h1, e', h2⟩
  con := by
    intro k u
    by_cases e : k = k0
    · subst e; rw [updZ_same]
      constructor
      · intro q; cases q; exact ⟨i, h.lt_n, by rw [upd_same]⟩
      · rintro ⟨j, h1, h2⟩
        by_cases e' : j = i
        · subst e'; rw [upd_same] at h2; cases h2; rfl
        · rw [upd_ne _ _ e'] at h2; exact absurd (by rw [h2]) (g.nk j h1 e')
    · rw [updZ_ne _ _ e, g.con]
      constructor
      · rintro ⟨j, h1, h2, h3⟩; exact ⟨j, h1, by rw [upd_ne _ _ h2]; exact h3⟩
      · rintro ⟨j, h1, h2⟩
        by_cases e' : j = i
        · subst e'; rw [upd_same] at h2; cases h2; exact absurd rfl e
        · rw [upd_ne _ _ e'] at h2; exact ⟨j, h1, e', h2⟩

/-- Set of a key that is there: its place is free. -/
theorem Full.free {n : Nat} {T : Nat → Int × V} {M : Int → Option Nat} {A : Int → Option V} (O : Odr lt ok) (h : Full lt ok n T M A) {k : Int} {i : Nat} (hi : M k = some i) :
    Hole lt ok n T i ∧ Pl n T i k M (updZ A k none) := by
  obtain ⟨h1, h2⟩ := (h.at_ k i).1 hi
  refine ⟨⟨h1, fun j hj _ => h.okV j hj, fun j h0 hj _ _ => h.ord j h0 hj, fun j h0 hj hp hi0 => ?_⟩, ⟨?_, ?_, ?_, ?_⟩⟩
  · have a1 := h.ord j h0 hj
    rw [hp] at a1
    exact O.ntr _ _ _ (h.okV j hj) (h.okV i h1) (h.okV _ (by have := par_lt hi0; omega)) a1 (h.ord i hi0 h1)
  · intro j hj e q; exact e (h.inj j i hj h1 (by rw [q, h2]))
  · intro j k hj hk _ _ q; exact h.inj j k hj hk q
  · intro k' e j
    rw [h.at_]
    constructor
    · rintro ⟨a, b⟩; exact ⟨a, fun q => e (by rw [← b, q, h2]), b⟩
    · rintro ⟨a, _, b⟩; exact ⟨a, b⟩
  · intro k' u
    by_cases e : k' = k
    · subst e; rw [updZ_same]
      constructor
      · intro q; cases q
      · rintro ⟨j, a, b, c⟩; exact absurd (h.inj j i a h1 (by rw [h2, c])) b
    · rw [updZ_ne _ _ e, h.con]
      constructor
      · rintro ⟨j, a, b⟩; exact ⟨j, a, fun q => e (by rw [← h2, ← q, b]), b⟩
      · rintro ⟨j, a, _, b⟩; exact ⟨j, a, b⟩

/-- Set of a key that isn't: there is one place more. -/
theorem Full.more {n : Nat} {T T' : Nat → Int × V} {M : Int → Option Nat} {A : Int → Option V} (h : Full lt ok n T M A) {k : Int} (hk : M k = none) (hT : ∀ j, j < n → T' j = T j) :
    Hole lt ok (n + 1) T' n ∧ Pl (n + 1) T' n k M (updZ A k none) := by
  have hA := h.isnone hk
  have low : ∀ j, j < n + 1 → j ≠ n → j < n := fun j a b => by omega
  refine ⟨⟨by omega, ?_, ?_, ?_⟩, ⟨?_, ?_, ?_, ?_⟩⟩
  · intro j hj e; rw [hT j (low j hj e)]; exact h.okV j (low j hj e)
  · intro j h0 hj e _; have := par_lt h0; rw [hT j (low j hj e), hT (par j) (by omega)]; exact h.ord j h0 (low j hj e)
  · intro j h0 hj e h1; unfold par at e; omega
  · intro j hj e q
    rw [hT j (low j hj e)] at q
    have := (h.at_ k j).2 ⟨low j hj e, q⟩
    rw [hk] at this; cases this
  · intro j i hj hi e e' q
    rw [hT j (low j hj e), hT i (low i hi e')] at q
    exact h.inj j i (low j hj e) (low i hi e') q
  · intro k' _ j
    rw [h.at_]
    constructor
    · rintro ⟨a, b⟩; exact ⟨by omega, by omega, by rw [hT j a]; exact b⟩
    · rintro ⟨a, b, c⟩; rw [hT j (low j a b)] at c; exact ⟨low j a b, c⟩
  · intro k' u
    have : updZ A k none k' = A k' := by
      by_cases e : k' = k
      · subst e; rw [updZ_same, hA]
      · rw [updZ_ne _ _ e]
    rw [this, h.con]
    constructor
    · rintro ⟨j, a, b⟩; exact ⟨j, by omega, by omega, by rw [hT j a]; exact b⟩
    · rintro ⟨j, a, b, c⟩; rw [hT j (low j a b)] at c; exact ⟨j, low j a b, c⟩

/-- Drop of a key in the middle: its place is free for the last one. -/
theorem Full.drop {n : Nat} {T T' : Nat → Int × V} {M : Int → Option Nat} {A : Int → Option V} (O : Odr lt ok) (h : Full lt ok (n + 1) T M A) {k : Int} {i : Nat} (hi : M k = some i) (hn : i < n) (hT : ∀ j, j < n → T' j = T j) :
    Hole lt ok n T' i ∧ Pl n T' i (T n).1 (updZ M k none) (updZ (updZ A k none) (T n).1 none) := by
  obtain ⟨h1, h2⟩ := (h.at_ k i).1 hi
  refine ⟨⟨hn, ?_, ?_, ?_⟩, ⟨?_, ?_, ?_, ?_⟩⟩
  · intro j hj _; rw [hT j hj]; exact h.okV j (by omega)
  · intro j h0 hj _ _; have := par_lt h0; rw [hT j hj, hT (par j) (by omega)]; exact h.ord j h0 (by omega)
  · intro j h0 hj hp hi0
    have := par_lt hi0
    rw [hT j hj, hT (par i) (by omega)]
    have a1 := h.ord j h0 (by omega)
    rw [hp] at a1
    exact O.ntr _ _ _ (h.okV j (by omega)) (h.okV i h1) (h.okV _ (by omega)) a1 (h.ord i hi0 h1)
  · intro j hj e q
    rw [hT j hj] at q
    have := h.inj j n (by omega) (by omega) q
    omega
  · intro j l hj hl _ _ q
    rw [hT j hj, hT l hl] at q
    exact h.inj j l (by omega) (by omega) q
  · intro k' e j
    by_cases e' : k' = k
    · subst e'; rw [updZ_same]
      constructor
      · intro q; cases q
      · rintro ⟨a, b, c⟩; rw [hT j a] at c; exact absurd (h.inj j i (by omega) h1 (by rw [c, h2])) b
    · rw [updZ_ne _ _ e', h.at_]
      constructor
      · rintro ⟨a, b⟩
        have hjn : j < n := by
          rcases Nat.lt_or_ge j n with q | q
          · exact q
          · exfalso; apply e; rw [← b]; congr 2; omega
        exact ⟨hjn, fun q => e' (by rw [← b, q, h2]), by rw [hT j hjn]; exact b⟩
      · rintro ⟨a, _, c⟩; rw [hT j a] at c; exact ⟨by omega, c⟩
  · intro k' u
    by_cases e : k' = (T n).1
    · subst e; rw [updZ_same]
      constructor
      · intro q; cases q
      · rintro ⟨j, a, b, c⟩
        rw [hT j a] at c
        have := h.inj j n (by omega) (by omega) (by rw [c])
        omega
    · rw [updZ_ne _ _ e]
      by_cases e' : k' = k
      · subst e'; rw [updZ_same]
        constructor
        · intro q; cases q
        · rintro ⟨j, a, b, c⟩; rw [hT j a] at c; exact absurd (h.inj j i (by omega) h1 (by rw [c, h2])) b
      · rw [updZ_ne _ _ e', h.con]
        constructor
        · rintro ⟨j, a, b⟩
          have hjn : j < n := by
            rcases Nat.lt_or_ge j n with q | q
            · exact q
            · exfalso; apply e
              have : j = n := by omega
              subst this; rw [b]
          exact ⟨j, hjn, fun q => e' (by rw [← h2, ← q, b]), by rw [hT j hjn]; exact b⟩
        · rintro ⟨j, a, _, c⟩; rw [hT j a] at c; exact ⟨j, by omega, c⟩

/-- Drop of the last one. -/
theorem Full.last {n : Nat} {T T' : Nat → Int × V} {M : Int → Option Nat} {A : Int → Option V} (h : Full lt ok (n + 1) T M A) {k : Int} (hi : M k = some n) (hT : ∀ j, j < n → T' j = T j) :
    Full lt ok n T' (updZ M k none) (updZ A k none) := by
  obtain ⟨h1, h2⟩ := (h.at_ k n).1 hi
  refine ⟨?_, ?_, ?_, ?_, ?_⟩
  · intro j hj; rw [hT j hj]; exact h.okV j (by omega)
  · intro j h0 hj; have := par_lt h0; rw [hT j hj, hT (par j) (by omega)]; exact h.ord j h0 (by omega)
  · intro j l hj hl q; rw [hT j hj, hT l hl] at q; exact h.inj j l (by omega) (by omega) q
  · intro k' j
    by_cases e' : k' = k
    · subst e'; rw [updZ_same]
      constructor
      · intro q; cases q
      · rintro ⟨a, c⟩; rw [hT j a] at c; have := h.inj j n (by omega) h1 (by rw [c, h2]); omega
    · rw [updZ_ne _ _ e', h.at_]
      constructor
      · rintro ⟨a, b⟩
        have hjn : j < n := by
          rcases Nat.lt_or_ge j n with q | q
          · exact q
          · exfalso; apply e'
            have : j = n := by omega
            subst this; rw [← b, h2]
        exact ⟨hjn, by rw [hT j hjn]; exact b⟩
      · rintro ⟨a, c⟩; rw [hT j a] at c; exact ⟨by omega, c⟩
  · intro k' u
    by_cases e' : k' = k
    · subst e'; rw [updZ_same]
      constructor
      · intro q; cases q
      · rintro ⟨j, a, c⟩; rw [hT j a] at c; have := h.inj j n (by omega) h1 (by rw [h2, c]); omega
    · rw [updZ_ne _ _ e', h.con]
      constructor
      · rintro ⟨j, a, b⟩
        have hjn : j < n := by
          rcases Nat.lt_or_ge j n with q | q
          · exact q
          · exfalso; apply e'
            have : j = n := by omega
            subst this; rw [← h2, b]
        exact ⟨j, hjn, by rw [hT j hjn]; exact b⟩
      · rintro ⟨j, a, c⟩; rw [hT j a] at c; exact ⟨j, by omega, c⟩

/-- None is less than the first one. -/
theorem Full.least {n : Nat} {T : Nat → Int × V} {M : Int → Option Nat} {A : Int → Option V} (O : Odr lt ok) (h : Full lt ok n T M A) : ∀ j, j < n → lt (T j).2 (T 0).2 = false := by
  intro j
  induction j using Nat.strongRecOn with
  | _ j ih =>
    intro hj
    rcases Nat.eq_zero_or_pos j with e | e
    · subst e; exact O.irr _ (h.okV 0 hj)
    · have hp := par_lt e
      exact O.ntr _ _ _ (h.okV j hj) (h.okV _ (by omega)) (h.okV 0 (by omega)) (h.ord j e hj) (ih (par j) hp (by omega))
theorem Full.mn {n : Nat} {T : Nat → Int × V} {M : Int → Option Nat} {A : Int → Option V} (O : Odr lt ok) (h : Full lt ok n T M A) (hn : 0 < n) :
    A (T 0).1 = some (T 0).2 ∧ ∀ k v, A k = some v → lt v (T 0).2 = false := by
  refine ⟨(h.con _ _).2 ⟨0, hn, rfl⟩, fun k v hk => ?_⟩
  obtain ⟨j, h1, h2⟩ := (h.con _ _).1 hk
  have := h.least O j h1
  rw [h2] at this; exact this
theorem Full.zero {T : Nat → Int × V} {M : Int → Option Nat} {A : Int → Option V} (h : Full lt ok 0 T M A) (k : Int) : A k = none := by
  cases e : A k with
  | none => rfl
  | some v => obtain ⟨j, h1, _⟩ := (h.con _ _).1 e; omega
theorem par_cases {j i : Nat} (h0 : 0 < j) (h : par j = i) : j = 2 * i + 1 ∨ j = 2 * i + 2 := by unfold par at h; omega
theorem par_left (i : Nat) : par (2 * i + 1) = i := by unfold par; omega
theorem par_right (i : Nat) : par (2 * i + 2) = i := by unfold par; omega
theorem pow_le30 {a m : Nat} (h : 2 ^ a ≤ m) (hm : m < 1073741824) : a < 30 := by
  rcases Nat.lt_or_ge a 30 with q | q
  · exact q
  · have : 2 ^ 30 ≤ 2 ^ a := Nat.pow_le_pow_right (by decide) q
    omega
end Go.Proofs.Ytgpookphacdgoaa.W
