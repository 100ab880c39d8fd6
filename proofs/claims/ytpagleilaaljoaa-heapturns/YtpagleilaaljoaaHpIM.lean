/- Two heaps of ints side by side; the law HeapTurns: words. -/
import Derived.Test.YtpagleilaaljoaaHpIK
namespace Go.Proofs.Ytpagleilaaljoaa.W.HI
open Go.RowKit

def H2 (B : Nat) (w : World) (r1 r2 n1 n2 : Nat) (A1 A2 : Int → Option V) : Prop :=
  ∃ X1 X2, Ob w r1 F14 n1 A1 X1 ∧ Ob w r2 F14 n2 A2 X2 ∧ (∀ j, X1 j → ¬ X2 j) ∧ (∀ j, X1 j ∨ X2 j → B ≤ j) ∧ B ≤ w.heap.size
theorem H2.swap {B : Nat} {w : World} {r1 r2 n1 n2 : Nat} {A1 A2 : Int → Option V} (h : H2 B w r1 r2 n1 n2 A1 A2) : H2 B w r2 r1 n2 n1 A2 A1 := by
  obtain ⟨X1, X2, h1, h2, h3, h4, h5⟩ := h
  exact ⟨X2, X1, h2, h1, fun j q q' => h3 j q' q, fun j q => h4 j q.symm, h5⟩
theorem H2.below {B : Nat} {w w' : World} {r1 r2 n1 n2 : Nat} {A1 A2 : Int → Option V} (h : H2 B w r1 r2 n1 n2 A1 A2) (hb : Below w.heap.size w w') : H2 B w' r1 r2 n1 n2 A1 A2 := by
  obtain ⟨X1, X2, h1, h2, h3, h4, h5⟩ := h
  have ho : Only w w' (fun _ => False) := Only.of_below hb
  exact ⟨X1, X2, h1.kept ho (fun _ _ q => q), h2.kept ho (fun _ _ q => q), h3, h4, Nat.le_trans h5 hb.size⟩
theorem p_set {B : Nat} (w : World) (r1 r2 n1 n2 : Nat) (A1 A2 : Int → Option V) (k v : Int) (h : H2 B w r1 r2 n1 n2 A1 A2) (hk : (KL k).wf = true) (hv : (KL v).wf = true) (hn : n1 < 1073741823) (n' : Nat) (hn' : n' = if (A1 k).isSome then n1 else n1 + 1) :
    Calls Try.prog 17 #[.pointer (some ⟨r1, 0, none⟩), .int .i64 k, .int .i64 v] w fun e w' => e = .returned (.tuple #[]) ∧ H2 B w' r1 r2 n' n2 (updZ A1 k (some v)) A2 ∧ Below B w w' := by
  obtain ⟨X1, X2, h1, h2, h3, h4, h5⟩ := h
  refine (set_any (less14 r1) n1 A1 X1 k v w h1 hk hv hn 0 (by decide) trivial (fun _ q => q.elim) (fun _ q => q.elim) n' hn').mono ?_
  rintro e w' ⟨rfl, X', a, g1, g2, _, _, g5⟩
  have g6 : Only w w' X1 := g5.mono (fun j q => q.elim id (fun q => q.elim))
  refine ⟨rfl, ⟨X', X2, g1, h2.kept g6 (fun j q q' => h3 j q' q), ?_, ?_, Nat.le_trans h5 g6.size⟩, g6.below (fun j q => h4 j (Or.inl q)) h5⟩
  · intro j q q'
    rcases g2 j q with q | q
    · exact h3 j q q'
    · have := h2.lt j q'; omega
  · rintro j (q | q)
    · rcases g2 j q with q | q
      · exact h4 j (Or.inl q)
      · omega
    · exact h4 j (Or.inr q)
theorem p_drop {B : Nat} (w : World) (r1 r2 n1 n2 : Nat) (A1 A2 : Int → Option V) (k v : Int) (h : H2 B w r1 r2 n1 n2 A1 A2) (hA : A1 k = some v) (hn : n1 < 1073741824) (n' : Nat) (hn' : n1 = n' + 1) :
    Calls Try.prog 15 #[.pointer (some ⟨r1, 0, none⟩), .int .i64 k] w fun e w' => e = .returned (.bool true) ∧ H2 B w' r1 r2 n' n2 (updZ A1 k none) A2 ∧ Below B w w' := by
  obtain ⟨X1, X2, h1, h2, h3, h4, h5⟩ := h
  refine (drop_some (less14 r1) n1 A1 X1 k v w h1 (h1.okV hA).2 hA hn 0 (by decide) trivial (fun _ q => q.elim) (fun _ q => q.elim) n' hn').mono ?_
  rintro e w' ⟨rfl, X', a, g1, g2, _, _, g5⟩
  have g6 : Only w w' X1 := g5.mono (fun j q => q.elim id (fun q => q.elim))
  refine ⟨rfl, ⟨X', X2, g1, h2.kept g6 (fun j q q' => h3 j q' q), ?_, ?_, Nat.le_trans h5 g6.size⟩, g6.below (fun j q => h4 j (Or.inl q)) h5⟩
  · intro j q q'
    rcases g2 j q with q | q
    · exact h3 j q q'
    · have := h2.lt j q'; omega
  · rintro j (q | q)
    · rcases g2 j q with q | q
      · exact h4 j (Or.inl q)
      · omega
    · exact h4 j (Or.inr q)
theorem H2.fst {B : Nat} {w : World} {r1 r2 n1 n2 : Nat} {A1 A2 : Int → Option V} (h : H2 B w r1 r2 n1 n2 A1 A2) : Hq (fun _ => True) w r1 n1 A1 := by
  obtain ⟨X1, X2, h1, h2, h3, h4, h5⟩ := h; exact ⟨X1, h1, fun _ _ => trivial⟩

/-- Of the first ones the places from n on are dropped, as far as i. -/
def cutE (fs : List Int) (n i : Nat) : Int → Option Int := fun z => if 0 ≤ z ∧ z < (fs.length : Int) ∧ ¬ ((n : Int) ≤ z ∧ z < (i : Int)) then fs[z.toNat]? else none
theorem cutE_start (fs : List Int) (n : Nat) : cutE fs n n = lst fs fs.length := by
  funext z; unfold cutE lst
  by_cases q : 0 ≤ z ∧ z < (fs.length : Int)
  · rw [if_pos q, if_pos (by omega)]
  · rw [if_neg q, if_neg (by omega)]
theorem cutE_at {fs : List Int} {n i : Nat} {x : Int} (h : fs[i]? = some x) (_hn : n ≤ i) : cutE fs n i (i : Int) = some x := by
  have := (List.getElem?_eq_some_iff.1 h).1
  unfold cutE; rw [if_pos (by omega)]; simpa using h
theorem cutE_succ (fs : List Int) {n i : Nat} (_hn : n ≤ i) : updZ (cutE fs n i) (i : Int) none = cutE fs n (i + 1) := by
  funext z; unfold updZ cutE
  by_cases e : z = (i : Int)
  · rw [if_pos e, if_neg (by omega)]
  · rw [if_neg e]
    by_cases q : 0 ≤ z ∧ z < (fs.length : Int) ∧ ¬ ((n : Int) ≤ z ∧ z < (i : Int))
    · rw [if_pos q, if_pos (by omega)]
    · rw [if_neg q, if_neg (by omega)]
/-- What stands there while the values come, one by one. -/
def mixE (vs fs : List Int) (n i : Nat) : Int → Option Int := fun z => if 0 ≤ z ∧ z < (i : Int) then vs[z.toNat]? else if 0 ≤ z ∧ z < (n : Int) ∧ z < (fs.length : Int) then fs[z.toNat]? else none
theorem mixE_start (vs fs : List Int) (n : Nat) {i : Nat} (hi : fs.length ≤ i) (_hn : n ≤ i) : cutE fs n i = mixE vs fs n 0 := by
  funext z; unfold cutE mixE
  rw [if_neg (c := 0 ≤ z ∧ z < ((0 : Nat) : Int)) (by omega)]
  by_cases q : 0 ≤ z ∧ z < (n : Int) ∧ z < (fs.length : Int)
  · rw [if_pos q, if_pos (by omega)]
  · rw [if_neg q, if_neg (by omega)]
theorem mixE_at {vs fs : List Int} {n i : Nat} (h : i < n) : (mixE vs fs n i (i : Int)).isSome = decide (i < fs.length) := by
  unfold mixE
  rw [if_neg (by omega)]
  by_cases q : i < fs.length
  · rw [if_pos (by omega)]; simp [q]
  · rw [if_neg (by omega)]; simp [q]
theorem mixE_succ {vs : List Int} (fs : List Int) {n i : Nat} {x : Int} (h : vs[i]? = some x) : updZ (mixE vs fs n i) (i : Int) (some x) = mixE vs fs n (i + 1) := by
  funext z; unfold updZ mixE
  by_cases e : z = (i : Int)
  · subst e; rw [if_pos rfl, if_pos (by omega)]; simp [h]
  · rw [if_neg e]
    by_cases q : 0 ≤ z ∧ z < (i : Int)
    · rw [if_pos q, if_pos (by omega)]
    · rw [if_neg q, if_neg (c := 0 ≤ z ∧ z < ((i + 1 : Nat) : Int)) (by omega)]
theorem mixE_end (vs fs : List Int) (n : Nat) : mixE vs fs n n = lst vs n := by
  funext z; unfold mixE lst
  by_cases q : 0 ≤ z ∧ z < (n : Int)
  · rw [if_pos q, if_pos q]
  · rw [if_neg q, if_neg q, if_neg (by omega)]

def idx (n s z : Nat) : Nat := (z + (n - s % n)) % n
theorem idx_of {n s i : Nat} (hi : i < n) : idx n s ((i + s) % n) = i := by
  unfold idx
  have hs : s % n < n := Nat.mod_lt _ (by omega)
  rw [Nat.mod_add_mod, Nat.add_assoc]
  have : s + (n - s % n) = n * (s / n + 1) := by
    have h := Nat.div_add_mod s n
    rw [Nat.mul_add, Nat.mul_one]; omega
  rw [this, Nat.add_mul_mod_self_left]
  exact Nat.mod_eq_of_lt hi
theorem idx_inj {n s y z : Nat} (hy : y < n) (hz : z < n) (h : idx n s y = idx n s z) : y = z := by
  unfold idx at h
  have hs : s % n < n := Nat.mod_lt _ (by omega)
  have e1 : (y + (n - s % n)) % n = if y < s % n then y + (n - s % n) else y - s % n := by
    split
    · exact Nat.mod_eq_of_lt (by omega)
    · rw [show y + (n - s % n) = y - s % n + n by omega, Nat.add_mod_right]; exact Nat.mod_eq_of_lt (by omega)
  have e2 : (z + (n - s % n)) % n = if z < s % n then z + (n - s % n) else z - s % n := by
    split
    · exact Nat.mod_eq_of_lt (by omega)
    · rw [show z + (n - s % n) = z - s % n + n by omega, Nat.add_mod_right]; exact Nat.mod_eq_of_lt (by omega)
  rw [e1, e2] at h
  split at h <;> split at h <;> omega
/-- Those that came from s on, round and round, i of them. -/
def rotE (vs : List Int) (n s i : Nat) : Int → Option Int := fun z => if 0 ≤ z ∧ z < (n : Int) ∧ idx n s z.toNat < i then vs[z.toNat]? else none
theorem rotE_start (vs : List Int) (n s : Nat) : rotE vs n s 0 = fun _ => none := by funext z; unfold rotE; rw [if_neg]; omega
theorem rotE_at (vs : List Int) {n s i : Nat} (hi : i < n) : rotE vs n s i (((i + s) % n : Nat) : Int) = none := by
  unfold rotE; rw [if_neg]
  rintro ⟨_, _, q⟩
  rw [Int.toNat_natCast, idx_of hi] at q; omega
theorem rotE_succ {vs : List Int} {n s i : Nat} {x : Int} (hi : i < n) (h : vs[(i + s) % n]? = some x) : updZ (rotE vs n s i) (((i + s) % n : Nat) : Int) (some x) = rotE vs n s (i + 1) := by
  have hj : (i + s) % n < n := Nat.mod_lt _ (by omega)
  funext z; unfold updZ rotE
  by_cases e : z = (((i + s) % n : Nat) : Int)
  · subst e; rw [if_pos rfl, if_pos (by rw [Int.toNat_natCast, idx_of hi]; omega)]; rw [Int.toNat_natCast, h]
  · rw [if_neg e]
    by_cases q : 0 ≤ z ∧ z < (n : Int)
    · have : idx n s z.toNat ≠ i := by
        intro e'
        have := idx_inj (n := n) (s := s) (y := z.toNat) (z := (i + s) % n) (by omega) hj (by rw [e', idx_of hi])
        omega
      by_cases q' : idx n s z.toNat < i
      · rw [if_pos ⟨q.1, q.2, q'⟩, if_pos ⟨q.1, q.2, by omega⟩]
      · rw [if_neg (fun h => q' h.2.2), if_neg (fun h => by omega)]
    · rw [if_neg (fun h => q ⟨h.1, h.2.1⟩), if_neg (fun h => q ⟨h.1, h.2.1⟩)]
theorem rotE_end (vs : List Int) {n : Nat} (s : Nat) : rotE vs n s n = lst vs n := by
  funext z; unfold rotE lst
  by_cases q : 0 ≤ z ∧ z < (n : Int)
  · rw [if_pos q, if_pos ⟨q.1, q.2, Nat.mod_lt _ (by omega)⟩]
  · rw [if_neg q, if_neg (fun h => q ⟨h.1, h.2.1⟩)]

/-- How many of the places below n hold v. -/
def cntV (A : Int → Option Int) (v : Int) : Nat → Nat
  | 0 => 0
  | n + 1 => cntV A v n + (if A (n : Int) = some v then 1 else 0)
theorem cntV_pos {A : Int → Option Int} {v : Int} : ∀ {n : Nat}, 0 < cntV A v n → ∃ z : Nat, z < n ∧ A (z : Int) = some v
  | 0, h => by simp [cntV] at h
  | n + 1, h => by
    unfold cntV at h
    by_cases q : A (n : Int) = some v
    · exact ⟨n, by omega, q⟩
    · rw [if_neg q] at h
      obtain ⟨z, h1, h2⟩ := cntV_pos (n := n) h
      exact ⟨z, by omega, h2⟩
theorem cntV_of {A : Int → Option Int} {v : Int} : ∀ {n z : Nat}, z < n → A (z : Int) = some v → 0 < cntV A v n
  | 0, _, h, _ => by omega
  | n + 1, z, h, hz => by
    unfold cntV
    by_cases q : z = n
    · subst q; rw [if_pos hz]; omega
    · have := cntV_of (n := n) (z := z) (by omega) hz; omega
theorem cntV_same {A : Int → Option Int} {k : Int} {v : Int} : ∀ {n : Nat}, (∀ z : Nat, z < n → (z : Int) ≠ k) → cntV (updZ A k none) v n = cntV A v n
  | 0, _ => rfl
  | n + 1, h => by
    unfold cntV
    rw [cntV_same (n := n) (fun z q => h z (by omega)), updZ_ne _ _ (h n (by omega))]
theorem cntV_drop {A : Int → Option Int} {k : Nat} {x v : Int} (hA : A (k : Int) = some x) : ∀ {n : Nat}, k < n → cntV (updZ A (k : Int) none) v n + (if v = x then 1 else 0) = cntV A v n
  | 0, h => by omega
  | n + 1, h => by
    unfold cntV
    by_cases q : k = n
    · subst q
      rw [cntV_same (fun z q => by omega), updZ_same, hA, if_neg (by simp)]
      by_cases e : v = x
      · subst e; simp
      · rw [if_neg e, if_neg (fun h => e (by injection h with h; exact h.symm))]
    · have := cntV_drop (v := v) hA (n := n) (by omega)
      rw [updZ_ne _ _ (by omega)]; omega
end Go.Proofs.Ytpagleilaaljoaa.W.HI
