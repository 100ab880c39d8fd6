/- Numbers as bytes, seven bits a byte: plain arithmetic, no program. -/
import Derived.Lib.Hide
namespace Go.Proofs.Ytkfhgdnlieaedaa.W

/-- A number's bytes. -/
def enc (n : Nat) : List Nat := if n < 128 then [n] else (n % 128 + 128) :: enc (n / 128)
termination_by n
decreasing_by omega
/-- The number of so many bytes. -/
def val : List Nat → Nat
  | [] => 0
  | c :: t => c % 128 + 128 * val t
/-- Of bytes from the i-th of a number on: how many are its, or 0 if there is none. -/
def fin : Nat → List Nat → Nat
  | _, [] => 0
  | i, c :: t => if (0 < i ∧ c = 0) ∨ (i = 9 ∧ 1 < c) then 0 else if c < 128 then 1 else if fin (i + 1) t = 0 then 0 else fin (i + 1) t + 1

theorem enc_small {n : Nat} (h : n < 128) : enc n = [n] := by rw [enc, if_pos h]
theorem enc_big {n : Nat} (h : 128 ≤ n) : enc n = (n % 128 + 128) :: enc (n / 128) := by rw [enc, if_neg (by omega)]

theorem enc_ind {P : Nat → Prop} (h0 : ∀ n, n < 128 → P n) (h1 : ∀ n, 128 ≤ n → P (n / 128) → P n) (n : Nat) : P n := by
  induction n using Nat.strongRecOn with
  | _ n ih =>
    by_cases h : n < 128
    · exact h0 n h
    · exact h1 n (by omega) (ih (n / 128) (by omega))

theorem enc_pos (n : Nat) : 0 < (enc n).length := by
  rw [enc]; split <;> simp
theorem enc_byte (n : Nat) : ∀ c ∈ enc n, c < 256 := by
  induction n using enc_ind with
  | h0 n h => intro c hc; rw [enc_small h] at hc; simp at hc; omega
  | h1 n h ih =>
    intro c hc; rw [enc_big h] at hc
    rcases List.mem_cons.1 hc with e | e
    · omega
    · exact ih c e
theorem enc_len (k : Nat) : ∀ n, n < 128 ^ (k + 1) → (enc n).length ≤ k + 1 := by
  induction k with
  | zero => intro n h; rw [enc_small (by simpa using h)]; simp
  | succ k ih =>
    intro n h
    by_cases hs : n < 128
    · rw [enc_small hs]; simp
    · rw [enc_big (by omega), List.length_cons]
      have := ih (n / 128) (by
        rw [Nat.div_lt_iff_lt_mul (by omega)]; rw [Nat.pow_succ] at h; exact h)
      omega
theorem enc_ten {n : Nat} (h : n < 18446744073709551616) : (enc n).length ≤ 10 := enc_len 9 n (by omega)
theorem enc_mono (a : Nat) : ∀ b, a ≤ b → (enc a).length ≤ (enc b).length := by
  induction a using enc_ind with
  | h0 n h => intro b _; rw [enc_small h]; have := enc_pos b; simp only [List.length_singleton]; omega
  | h1 n h ih =>
    intro b hb
    rw [enc_big h, enc_big (show 128 ≤ b by omega)]
    have := ih (b / 128) (Nat.div_le_div_right hb)
    simp only [List.length_cons]; omega
theorem val_enc (n : Nat) : val (enc n) = n := by
  induction n using enc_ind with
  | h0 n h => rw [enc_small h]; simp [val]; omega
  | h1 n h ih => rw [enc_big h, val, ih]; omega

theorem fin_enc (n : Nat) : ∀ i r, (i = 0 ∨ n ≠ 0) → i ≤ 9 → n < 2 ^ (64 - 7 * i) → fin i (enc n ++ r) = (enc n).length := by
  induction n using enc_ind with
  | h0 n h =>
    intro i r h0 h9 hb
    rw [enc_small h]
    show fin i (n :: r) = 1
    rw [fin, if_neg, if_pos h]
    rintro (⟨a, b⟩ | ⟨a, b⟩)
    · omega
    · subst a; simp at hb; omega
  | h1 n h ih =>
    intro i r h0 h9 hb
    have h8 : i ≤ 8 := by
      rcases Nat.lt_or_ge i 9 with k | k
      · omega
      · obtain rfl : i = 9 := by omega
        simp at hb; omega
    have e := ih (i + 1) r (Or.inr (by omega)) (by omega) (by
      rw [Nat.div_lt_iff_lt_mul (by omega)]
      have : 2 ^ (64 - 7 * (i + 1)) * 128 = 2 ^ (64 - 7 * i) := by
        rw [show 64 - 7 * i = (64 - 7 * (i + 1)) + 7 by omega, Nat.pow_add]
      omega)
    have p := enc_pos (n / 128)
    rw [enc_big h]
    show fin i ((n % 128 + 128) :: (enc (n / 128) ++ r)) = _
    rw [fin, if_neg (by omega), if_neg (by omega), e, if_neg (by omega), List.length_cons]

theorem fin_cut (n : Nat) : ∀ i k, k < (enc n).length → fin i ((enc n).take k) = 0 := by
  induction n using enc_ind with
  | h0 n h =>
    intro i k hk
    rw [enc_small h] at hk ⊢
    obtain rfl : k = 0 := by simpa using hk
    rfl
  | h1 n h ih =>
    intro i k hk
    rw [enc_big h] at hk ⊢
    cases k with
    | zero => rfl
    | succ k =>
      have := ih (i + 1) k (by simpa using hk)
      rw [List.take_succ_cons, fin]
      split
      · rfl
      · rw [if_neg (show ¬ n % 128 + 128 < 128 by omega)]

theorem fin_le : ∀ (l : List Nat) (i : Nat), fin i l ≤ l.length
  | [], i => by simp [fin]
  | c :: t, i => by
    have := fin_le t (i + 1)
    rw [fin, List.length_cons]
    split
    · omega
    · split
      · omega
      · split <;> omega

theorem fin_ones : ∀ (l : List Nat) (i : Nat), (∀ c ∈ l, c < 256) → i ≤ 9 → fin i l ≠ 0 →
    enc (val (l.take (fin i l))) = l.take (fin i l) ∧ val (l.take (fin i l)) < 2 ^ (64 - 7 * i) ∧ (0 < i → val (l.take (fin i l)) ≠ 0)
  | [], i => by intro _ _ h; simp [fin] at h
  | c :: t, i => by
    intro hb h9 h
    have hc : c < 256 := hb c (by simp)
    by_cases bad : (0 < i ∧ c = 0) ∨ (i = 9 ∧ 1 < c)
    · rw [fin, if_pos bad] at h; exact absurd rfl h
    · by_cases hs : c < 128
      · have e : fin i (c :: t) = 1 := by rw [fin, if_neg bad, if_pos hs]
        rw [e]
        have v : val ((c :: t).take 1) = c := by simp [val]; omega
        rw [v]
        refine ⟨by rw [enc_small hs]; rfl, ?_, by omega⟩
        by_cases i9 : i = 9
        · subst i9; simp; omega
        · have : 2 ^ 8 ≤ 2 ^ (64 - 7 * i) := Nat.pow_le_pow_right (by omega) (by omega)
          omega
      · by_cases z : fin (i + 1) t = 0
        · rw [fin, if_neg bad, if_neg hs, if_pos z] at h; exact absurd rfl h
        · have e : fin i (c :: t) = fin (i + 1) t + 1 := by rw [fin, if_neg bad, if_neg hs, if_neg z]
          have h8 : i ≤ 8 := by omega
          obtain ⟨a1, a2, a3⟩ := fin_ones t (i + 1) (fun x hx => hb x (by simp [hx])) (by omega) z
          rw [e, List.take_succ_cons]
          generalize hv : val (t.take (fin (i + 1) t)) = v at *
          have a3' := a3 (by omega)
          have v' : val (c :: t.take (fin (i + 1) t)) = c % 128 + 128 * v := by rw [val, hv]
          rw [v']
          refine ⟨?_, ?_, by omega⟩
          · rw [enc_big (by omega), show (c % 128 + 128 * v) / 128 = v by omega, a1, show (c % 128 + 128 * v) % 128 + 128 = c by omega]
          · have : 2 ^ (64 - 7 * (i + 1)) * 128 = 2 ^ (64 - 7 * i) := by
              rw [show 64 - 7 * i = (64 - 7 * (i + 1)) + 7 by omega, Nat.pow_add]
            omega

/-- The bytes so far of a number go on: none is bad, and each has another behind it. -/
def goes (l : List Nat) (i : Nat) : Prop := i ≤ l.length ∧ i ≤ 9 ∧ ∀ j, j < i → ∀ c, l[j]? = some c → 128 ≤ c
theorem fin_goes : ∀ (i : Nat) (l : List Nat) (b : Nat), b + i ≤ 9 → i ≤ l.length → (∀ j, j < i → ∀ c, l[j]? = some c → 128 ≤ c) → 
    fin b l = if fin (b + i) (l.drop i) = 0 then 0 else fin (b + i) (l.drop i) + i
  | 0, l, b => by intro _ _ _; simp
  | i + 1, [], b => by intro _ h _; simp at h
  | i + 1, c :: t, b => by
    intro h9 hl hc
    have h0 : 128 ≤ c := hc 0 (by omega) c rfl
    have ih := fin_goes i t (b + 1) (by omega) (by simpa using hl) (fun j hj x hx => hc (j + 1) (by omega) x (by simpa using hx))
    rw [show b + 1 + i = b + (i + 1) by omega] at ih
    rw [fin, if_neg (by omega), if_neg (by omega), ih, List.drop_succ_cons]
    by_cases z : fin (b + (i + 1)) (t.drop i) = 0
    · simp [z]
    · simp only [if_neg z]
      rw [if_neg (by omega)]; omega
theorem goes_zero (l : List Nat) : goes l 0 := ⟨by omega, by omega, fun j h => absurd h (by omega)⟩
theorem goes_succ {l : List Nat} {i c : Nat} (h : goes l i) (hc : l[i]? = some c) (hb : 128 ≤ c) (h9 : i ≠ 9) : goes l (i + 1) := by
  obtain ⟨h1, h2, h3⟩ := h
  have := (List.getElem?_eq_some_iff.1 hc).1
  refine ⟨by omega, by omega, fun j hj x hx => ?_⟩
  by_cases e : j = i
  · subst e; rw [hc] at hx; injection hx with hx; omega
  · exact h3 j (by omega) x hx
theorem drop_at {l : List Nat} {i c : Nat} (hc : l[i]? = some c) : l.drop i = c :: l.drop (i + 1) := by
  obtain ⟨h, e⟩ := List.getElem?_eq_some_iff.1 hc
  rw [List.drop_eq_getElem_cons h, e]
theorem fin_bad {l : List Nat} {i c : Nat} (h : goes l i) (hc : l[i]? = some c) (hb : (0 < i ∧ c = 0) ∨ (i = 9 ∧ 1 < c)) : fin 0 l = 0 := by
  obtain ⟨h1, h2, h3⟩ := h
  have e := fin_goes i l 0 (by omega) h1 h3
  rw [Nat.zero_add, drop_at hc, fin, if_pos hb] at e
  simpa using e
theorem fin_end {l : List Nat} {i c : Nat} (h : goes l i) (hc : l[i]? = some c) (hb : ¬ ((0 < i ∧ c = 0) ∨ (i = 9 ∧ 1 < c))) (hs : c < 128) : fin 0 l = i + 1 := by
  obtain ⟨h1, h2, h3⟩ := h
  have e := fin_goes i l 0 (by omega) h1 h3
  rw [Nat.zero_add, drop_at hc, fin, if_neg hb, if_pos hs] at e
  rw [e]; simp; omega
theorem fin_none {l : List Nat} (h : goes l l.length) : fin 0 l = 0 := by
  obtain ⟨h1, h2, h3⟩ := h
  have e := fin_goes l.length l 0 (by omega) h1 h3
  rw [e, List.drop_length]; simp [fin]

theorem val_snoc : ∀ (l : List Nat) (c : Nat), val (l ++ [c]) = val l + 128 ^ l.length * (c % 128)
  | [], c => by simp [val]
  | a :: t, c => by
    rw [List.cons_append, val, val, val_snoc t c, List.length_cons, Nat.pow_succ, Nat.mul_add, ← Nat.add_assoc, Nat.mul_comm (128 ^ t.length) 128, Nat.mul_assoc]
theorem val_lt : ∀ (l : List Nat), val l < 128 ^ l.length
  | [] => by simp [val]
  | a :: t => by
    have := val_lt t
    rw [val, List.length_cons, Nat.pow_succ]; omega
theorem take_nsnoc {l : List Nat} {i c : Nat} (hc : l[i]? = some c) : l.take (i + 1) = l.take i ++ [c] := by
  obtain ⟨h, e⟩ := List.getElem?_eq_some_iff.1 hc
  rw [List.take_succ_eq_append_getElem h, e]

/-- What a reader tells of its next number, where it stands then, and its error. -/
def nV (bs : List Nat) (a er most : Nat) : Nat := if er ≠ 0 then 0 else if fin 0 (bs.drop a) = 0 then 0 else if most < val ((bs.drop a).take (fin 0 (bs.drop a))) then 0 else val ((bs.drop a).take (fin 0 (bs.drop a)))
def nA (bs : List Nat) (a er most : Nat) : Nat := if er ≠ 0 then a else if fin 0 (bs.drop a) = 0 then a else if most < val ((bs.drop a).take (fin 0 (bs.drop a))) then a else a + fin 0 (bs.drop a)
def nE (bs : List Nat) (a er most : Nat) : Nat := if er ≠ 0 then er else if fin 0 (bs.drop a) = 0 then 5 else if most < val ((bs.drop a).take (fin 0 (bs.drop a))) then 1 else 0
theorem n_err {bs : List Nat} {a er most : Nat} (h : er ≠ 0) : nV bs a er most = 0 ∧ nA bs a er most = a ∧ nE bs a er most = er := by
  unfold nV nA nE; simp [h]
theorem n_form {bs : List Nat} {a most : Nat} (h : fin 0 (bs.drop a) = 0) : nV bs a 0 most = 0 ∧ nA bs a 0 most = a ∧ nE bs a 0 most = 5 := by
  unfold nV nA nE; simp [h]
theorem n_arg {bs : List Nat} {a most : Nat} (h : fin 0 (bs.drop a) ≠ 0) (h2 : most < val ((bs.drop a).take (fin 0 (bs.drop a)))) : nV bs a 0 most = 0 ∧ nA bs a 0 most = a ∧ nE bs a 0 most = 1 := by
  unfold nV nA nE; simp [h, h2]
theorem n_ok {bs : List Nat} {a most : Nat} (h : fin 0 (bs.drop a) ≠ 0) (h2 : val ((bs.drop a).take (fin 0 (bs.drop a))) ≤ most) : nV bs a 0 most = val ((bs.drop a).take (fin 0 (bs.drop a))) ∧ nA bs a 0 most = a + fin 0 (bs.drop a) ∧ nE bs a 0 most = 0 := by
  unfold nV nA nE; simp [h, show ¬ most < val ((bs.drop a).take (fin 0 (bs.drop a))) by omega]
theorem nA_le {bs : List Nat} {a er most : Nat} (h : a ≤ bs.length) : nA bs a er most ≤ bs.length := by
  have := fin_le (bs.drop a) 0
  rw [List.length_drop] at this
  unfold nA; split
  · exact h
  · split
    · exact h
    · split <;> omega
/-- A number's bytes, read where they stand. -/
theorem n_enc {pre r : List Nat} {n most : Nat} (hn : n < 18446744073709551616) (hm : n ≤ most) :
    nV (pre ++ (enc n ++ r)) pre.length 0 most = n ∧ nA (pre ++ (enc n ++ r)) pre.length 0 most = pre.length + (enc n).length ∧ nE (pre ++ (enc n ++ r)) pre.length 0 most = 0 := by
  have d : (pre ++ (enc n ++ r)).drop pre.length = enc n ++ r := by simp
  have f : fin 0 (enc n ++ r) = (enc n).length := fin_enc n 0 r (Or.inl rfl) (by omega) (by simpa using hn)
  have p := enc_pos n
  have t : (enc n ++ r).take (enc n).length = enc n := by simp
  have := n_ok (bs := pre ++ (enc n ++ r)) (a := pre.length) (most := most) (by rw [d, f]; omega) (by rw [d, f, t, val_enc]; exact hm)
  rw [d, f, t, val_enc] at this
  exact this
theorem n_enc_arg {pre r : List Nat} {n most : Nat} (hn : n < 18446744073709551616) (hm : most < n) :
    nV (pre ++ (enc n ++ r)) pre.length 0 most = 0 ∧ nA (pre ++ (enc n ++ r)) pre.length 0 most = pre.length ∧ nE (pre ++ (enc n ++ r)) pre.length 0 most = 1 := by
  have d : (pre ++ (enc n ++ r)).drop pre.length = enc n ++ r := by simp
  have f : fin 0 (enc n ++ r) = (enc n).length := fin_enc n 0 r (Or.inl rfl) (by omega) (by simpa using hn)
  have p := enc_pos n
  have t : (enc n ++ r).take (enc n).length = enc n := by simp
  exact n_arg (by rw [d, f]; omega) (by rw [d, f, t, val_enc]; exact hm)
end Go.Proofs.Ytkfhgdnlieaedaa.W
