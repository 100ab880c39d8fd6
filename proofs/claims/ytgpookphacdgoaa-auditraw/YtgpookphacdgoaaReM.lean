/- Answers as words: plain, no program. -/
import Derived.Lib.AtoiTie
import Derived.Lib.ItoaNum
import Derived.Lib.IndexBytes
import Derived.Lib.CutLaws
import Derived.Lib.Join
import Derived.Lib.Hide
namespace Go.Proofs.Ytgpookphacdgoaa.W
open Go.Lib

/-- Bytes as a string. -/
def bst (l : List UInt8) : ByteArray := ⟨l.toArray⟩
theorem bst_list (l : List UInt8) : (bst l).data.toList = l := rfl
theorem bst_inj {a b : List UInt8} (h : bst a = bst b) : a = b := by
  have := congrArg (fun s : ByteArray => s.data.toList) h
  simpa [bst] using this
theorem bst_of (s : ByteArray) : bst s.data.toList = s := rfl
theorem bst_app (a b : List UInt8) : bst a ++ bst b = bst (a ++ b) := by
  apply ByteArray.ext
  simp [bst, ByteArray.data_append]

/-- An answer: its kind, box, why, error. -/
structure An where
  k : Int
  b : Int
  y : Int
  e : Int
def an0 : An := ⟨0, 0, 0, 0⟩
def wE (e : Int) : List UInt8 :=
  if e = 0 then [111, 107] else if e = 1 then [97, 114, 103] else if e = 2 then [110, 111, 110, 101] else if e = 3 then [115, 116, 97, 116, 101] else if e = 4 then [113, 117, 111, 116, 97] else if e = 5 then [102, 111, 114, 109] else if e = 6 then [109, 97, 110, 121] else []
def wY (y : Int) : List UInt8 :=
  if y = 1 then [102, 117, 110, 99, 116, 105, 111, 110] else if y = 2 then [97, 99, 99, 111, 117, 110, 116] else if y = 3 then [116, 111, 107, 101, 110, 115] else if y = 4 then [114, 111, 111, 109] else []
def refW : List UInt8 := [114, 101, 102, 117, 115, 101, 100]
def warmW : List UInt8 := [119, 97, 114, 109]
def coldW : List UInt8 := [99, 111, 108, 100]
def thrW : List UInt8 := [116, 104, 114, 111, 116, 116, 108, 101, 100]
def okA (a : An) : Prop :=
  (a.k = 0 ∧ a.b = 0 ∧ a.y = 0 ∧ a.e = 0) ∨ (a.k = 1 ∧ 1 ≤ a.e ∧ a.e ≤ 6 ∧ a.b = 0 ∧ a.y = 0) ∨ ((a.k = 2 ∨ a.k = 3) ∧ 1 ≤ a.b ∧ a.b ≤ 2147483647 ∧ a.y = 0 ∧ a.e = 0) ∨ (a.k = 4 ∧ 1 ≤ a.y ∧ a.y ≤ 4 ∧ a.b = 0 ∧ a.e = 0)
def txt (a : An) : List UInt8 :=
  if a.k = 1 then refW ++ 32 :: wE a.e else if a.k = 2 then warmW ++ 32 :: itoa a.b else if a.k = 3 then coldW ++ 32 :: itoa a.b else if a.k = 4 then thrW ++ 32 :: wY a.y else [111, 107]

/-! Numbers. -/
theorem decFrom_app : ∀ (l r : List UInt8) (acc : Nat), decFrom acc (l ++ r) = (decFrom acc l).bind (fun n => decFrom n r)
  | [], r, acc => by simp [decFrom]
  | c :: t, r, acc => by
    rw [List.cons_append, decFrom, decFrom]
    cases h : digitVal c with
    | none => simp
    | some d => simp only; exact decFrom_app t r _
theorem digit_val {d : Nat} (h : d < 10) : digitVal (UInt8.ofNat (48 + d)) = some d ∧ (UInt8.ofNat (48 + d)).toNat = 48 + d := by
  have e : (UInt8.ofNat (48 + d)).toNat = 48 + d := by simp; omega
  refine ⟨?_, e⟩
  unfold digitVal
  rw [e, if_pos (by omega)]; simp
theorem dec_val (u : Nat) : decFrom 0 (decDigits u) = some u := by
  induction u using Nat.strongRecOn with
  | _ u ih =>
    rw [decDigits]
    by_cases h : u < 10
    · rw [dif_pos h, decFrom, (digit_val h).1]; simp [decFrom]
    · rw [dif_neg h, decFrom_app, ih (u / 10) (by omega)]
      simp only [Option.bind_some]
      rw [decFrom, (digit_val (show u % 10 < 10 by omega)).1]
      simp only [decFrom]; congr 1; omega
theorem dec_byte (u : Nat) : ∀ c ∈ decDigits u, 48 ≤ c.toNat ∧ c.toNat ≤ 57 := by
  induction u using Nat.strongRecOn with
  | _ u ih =>
    intro c hc
    rw [decDigits] at hc
    by_cases h : u < 10
    · rw [dif_pos h] at hc
      simp only [List.mem_singleton] at hc
      rw [hc, (digit_val h).2]; omega
    · rw [dif_neg h] at hc
      rcases List.mem_append.1 hc with q | q
      · exact ih (u / 10) (by omega) c q
      · simp only [List.mem_singleton] at q
        rw [q, (digit_val (show u % 10 < 10 by omega)).2]; omega
theorem dec_ne (u : Nat) : decDigits u ≠ [] := by
  intro h
  have := decDigits_length u
  have := nDigits_pos u
  rw [h] at *; simp at *; omega
theorem dec_inj {u v : Nat} (h : decDigits u = decDigits v) : u = v := by
  have := dec_val u
  rw [h, dec_val v] at this
  exact (Option.some.inj this).symm
theorem dec_len {u : Nat} (h : u < 10000000000) : (decDigits u).length ≤ 10 := by
  rw [decDigits_length]
  rcases Nat.lt_or_ge 10 (nDigits u) with q | q
  · exfalso
    have key : ∀ k u, u < 10 ^ (k + 1) → nDigits u ≤ k + 1 := by
      intro k
      induction k with
      | zero => intro u hu; rw [nDigits_small (by simpa using hu)]; omega
      | succ k ih =>
        intro u hu
        by_cases hs : u < 10
        · rw [nDigits_small hs]; omega
        · rw [nDigits_big hs]
          have := ih (u / 10) (by rw [Nat.div_lt_iff_lt_mul (by omega)]; rw [Nat.pow_succ] at hu; exact hu)
          omega
    have := key 9 u (by simpa using h)
    omega
  · exact q
theorem atoi_dec {u : Nat} (h : u < 10000000000) : atoiAll (decDigits u) = .ok (u : Int) := by
  have hl := dec_len h
  rw [atoiAll_short _ (by omega)]
  have hv := dec_val u
  have hb := dec_byte u
  cases hd : decDigits u with
  | nil => exact absurd hd (dec_ne u)
  | cons c r =>
    rw [hd] at hv hb
    have h1 := hb c (by simp)
    have h45 : (c == 45) = false := by
      have : c ≠ 45 := by intro q; rw [q] at h1; simp at h1
      simpa using this
    have h43 : (c == 43) = false := by
      have : c ≠ 43 := by intro q; rw [q] at h1; simp at h1
      simpa using this
    unfold atoi
    simp only [h45, h43]
    unfold decNat
    simp only [List.isEmpty_cons]
    rw [if_neg (by simp), if_neg (by simp), if_neg (by simp), hv]
    rfl
theorem itoa_nat (u : Nat) : itoa (u : Int) = decDigits u := by unfold itoa; rw [if_neg (by omega)]; simp
theorem itoa_byte (n : Int) : ∀ c ∈ itoa n, c ≠ 32 := by
  intro c hc q
  subst q
  unfold itoa at hc
  split at hc
  · rcases List.mem_cons.1 hc with h | h
    · exact absurd h (by decide)
    · have := dec_byte _ _ h; simp at this
  · have := dec_byte _ _ hc; simp at this
theorem itoa_inj {n m : Int} (h : itoa n = itoa m) : n = m := by
  unfold itoa at h
  have no : ∀ u v, (45 : UInt8) :: decDigits u ≠ decDigits v := by
    intro u v q
    have := dec_byte v 45 (by rw [← q]; simp)
    simp at this
  by_cases hn : n < 0
  · by_cases hm : m < 0
    · rw [if_pos hn, if_pos hm] at h
      injection h with _ h
      have := dec_inj h; omega
    · rw [if_pos hn, if_neg hm] at h
      exact absurd h (no _ _)
  · by_cases hm : m < 0
    · rw [if_neg hn, if_pos hm] at h
      exact absurd h.symm (no _ _)
    · rw [if_neg hn, if_neg hm] at h
      have := dec_inj h; omega
theorem itoa_len (n : Int) (h0 : -9223372036854775808 ≤ n) (h1 : n ≤ 9223372036854775807) : (itoa n).length ≤ 30 := by
  have key : ∀ k u, u < 10 ^ (k + 1) → nDigits u ≤ k + 1 := by
    intro k
    induction k with
    | zero => intro u hu; rw [nDigits_small (by simpa using hu)]; omega
    | succ k ih =>
      intro u hu
      by_cases hs : u < 10
      · rw [nDigits_small hs]; omega
      · rw [nDigits_big hs]
        have := ih (u / 10) (by rw [Nat.div_lt_iff_lt_mul (by omega)]; rw [Nat.pow_succ] at hu; exact hu)
        omega
  unfold itoa
  split
  · rw [List.length_cons, decDigits_length]
    have := key 19 n.natAbs (by simp; omega)
    omega
  · rw [decDigits_length]
    have := key 19 n.toNat (by simp; omega)
    omega

/-! Words. -/
theorem ix_word : ∀ (w r : List UInt8), (∀ c ∈ w, c ≠ 32) → indexByte (w ++ 32 :: r) 32 = (w.length : Int)
  | [], r, _ => by simp [indexByte]
  | c :: t, r, h => by
    have ih := ix_word t r (fun x hx => h x (by simp [hx]))
    rw [List.cons_append, indexByte, ih]
    have hc : (c == 32) = false := by simpa using h c (by simp)
    rw [hc]
    simp
theorem ix_none : ∀ (w : List UInt8), (∀ c ∈ w, c ≠ 32) → indexByte w 32 = -1
  | [], _ => rfl
  | c :: t, h => by
    have ih := ix_none t (fun x hx => h x (by simp [hx]))
    rw [indexByte, ih]
    have hc : (c == 32) = false := by simpa using h c (by simp)
    rw [hc]; simp
theorem cut_word {w r : List UInt8} (h : ∀ c ∈ w, c ≠ 32) : (cut (w ++ 32 :: r) [32]).1 = w ∧ (cut (w ++ 32 :: r) [32]).2.1 = r := by
  unfold cut
  rw [index_one, ix_word w r h, if_pos (by omega)]
  simp
theorem cut_none {w : List UInt8} (h : ∀ c ∈ w, c ≠ 32) : (cut w [32]).1 = w ∧ (cut w [32]).2.1 = [] := by
  unfold cut
  rw [index_one, ix_none w h, if_neg (by omega)]
  simp
theorem word_inj {a a' r r' : List UInt8} (h : ∀ c ∈ a, c ≠ 32) (h' : ∀ c ∈ a', c ≠ 32) (e : a ++ 32 :: r = a' ++ 32 :: r') : a = a' ∧ r = r' := by
  obtain ⟨h1, h2⟩ := cut_word (r := r) h
  rw [e, (cut_word h').1] at h1
  rw [e, (cut_word h').2] at h2
  exact ⟨h1.symm, h2.symm⟩

/-- What a word names. -/
def eOf (r : List UInt8) : Int := if wE 1 = r then 1 else if wE 2 = r then 2 else if wE 3 = r then 3 else if wE 4 = r then 4 else if wE 5 = r then 5 else if wE 6 = r then 6 else 0
def yOf (r : List UInt8) : Int := if wY 1 = r then 1 else if wY 2 = r then 2 else if wY 3 = r then 3 else if wY 4 = r then 4 else 0
def numF (l : List UInt8) : Int := match atoiAll l with
  | .ok v => v
  | _ => 0
def gsw (w r : List UInt8) : An := if w = refW then ⟨1, 0, 0, eOf r⟩ else if w = warmW then ⟨2, numF r, 0, 0⟩ else if w = coldW then ⟨3, numF r, 0, 0⟩ else if w = thrW then ⟨4, 0, yOf r, 0⟩ else an0
def gs (l : List UInt8) : An := gsw (cut l [32]).1 (cut l [32]).2.1

theorem eOf_w {e : Int} (h1 : 1 ≤ e) (h6 : e ≤ 6) : eOf (wE e) = e := by
  have : e = 1 ∨ e = 2 ∨ e = 3 ∨ e = 4 ∨ e = 5 ∨ e = 6 := by omega
  rcases this with rfl | rfl | rfl | rfl | rfl | rfl <;> decide
theorem yOf_w {y : Int} (h1 : 1 ≤ y) (h4 : y ≤ 4) : yOf (wY y) = y := by
  have : y = 1 ∨ y = 2 ∨ y = 3 ∨ y = 4 := by omega
  rcases this with rfl | rfl | rfl | rfl <;> decide
theorem numF_itoa {b : Int} (h1 : 1 ≤ b) (h2 : b ≤ 2147483647) : numF (itoa b) = b := by
  obtain ⟨u, rfl⟩ := Int.eq_ofNat_of_zero_le (show 0 ≤ b by omega)
  unfold numF
  rw [itoa_nat, atoi_dec (by omega)]
/-- An answer's words name it. -/
theorem gs_txt {a : An} (h : okA a) : gs (txt a) = a := by
  obtain ⟨k, b, y, e⟩ := a
  unfold okA at h
  simp only at h
  unfold gs txt
  rcases h with ⟨rfl, rfl, rfl, rfl⟩ | ⟨rfl, h1, h6, rfl, rfl⟩ | ⟨rfl | rfl, h1, h2, rfl, rfl⟩ | ⟨rfl, h1, h4, rfl, rfl⟩
  · simp only [show ¬ ((0 : Int) = 1) by decide, show ¬ ((0 : Int) = 2) by decide, show ¬ ((0 : Int) = 3) by decide, show ¬ ((0 : Int) = 4) by decide, if_false]
    obtain ⟨c1, c2⟩ := cut_none (w := [111, 107]) (by decide)
    rw [c1, c2, gsw, if_neg (by decide), if_neg (by decide), if_neg (by decide), if_neg (by decide)]; rfl
  · rw [if_pos rfl]
    obtain ⟨c1, c2⟩ := cut_word (w := refW) (r := wE e) (by decide)
    rw [c1, c2, gsw, if_pos rfl, eOf_w h1 h6]
  · rw [if_neg (by simp), if_pos rfl]
    obtain ⟨c1, c2⟩ := cut_word (w := warmW) (r := itoa b) (by decide)
    rw [c1, c2, gsw, if_neg (by decide), if_pos rfl, numF_itoa h1 h2]
  · rw [if_neg (by simp), if_neg (by simp), if_pos rfl]
    obtain ⟨c1, c2⟩ := cut_word (w := coldW) (r := itoa b) (by decide)
    rw [c1, c2, gsw, if_neg (by decide), if_neg (by decide), if_pos rfl, numF_itoa h1 h2]
  · rw [if_neg (by simp), if_neg (by simp), if_neg (by simp), if_pos rfl]
    obtain ⟨c1, c2⟩ := cut_word (w := thrW) (r := wY y) (by decide)
    rw [c1, c2, gsw, if_neg (by decide), if_neg (by decide), if_neg (by decide), if_pos rfl, yOf_w h1 h4]
theorem txt_inj {a b : An} (ha : okA a) (hb : okA b) (h : txt a = txt b) : a = b := by rw [← gs_txt ha, ← gs_txt hb, h]
theorem txt_ne (a : An) : txt a ≠ [] := by
  unfold txt
  split
  · simp
  · split
    · simp
    · split
      · simp
      · split <;> simp
theorem txt_len {a : An} (h : okA a) : (txt a).length ≤ 100 := by
  obtain ⟨k, b, y, e⟩ := a
  unfold okA at h
  simp only at h
  unfold txt
  rcases h with ⟨rfl, rfl, rfl, rfl⟩ | ⟨rfl, h1, h6, rfl, rfl⟩ | ⟨rfl | rfl, h1, h2, rfl, rfl⟩ | ⟨rfl, h1, h4, rfl, rfl⟩
  · simp
  · have : e = 1 ∨ e = 2 ∨ e = 3 ∨ e = 4 ∨ e = 5 ∨ e = 6 := by omega
    rcases this with rfl | rfl | rfl | rfl | rfl | rfl <;> decide
  · have := itoa_len b (by omega) (by omega)
    simp [warmW]; omega
  · have := itoa_len b (by omega) (by omega)
    simp [coldW]; omega
  · have : y = 1 ∨ y = 2 ∨ y = 3 ∨ y = 4 := by omega
    rcases this with rfl | rfl | rfl | rfl <;> decide
/-- What the law has for an answer's words: none, if it is none. -/
theorem no_txt {l : List UInt8} (h : ¬ (okA (gs l) ∧ txt (gs l) = l)) (a : An) (ha : okA a) : txt a ≠ l := by
  intro q
  apply h
  rw [← q, gs_txt ha]
  exact ⟨ha, rfl⟩
end Go.Proofs.Ytgpookphacdgoaa.W
