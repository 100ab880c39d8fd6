/- Events as numbers: plain, no program. -/
import Derived.Lib.Hide
namespace Go.Proofs.Ytgpookphacdgoaa.W

/-- An event: its kind, N, Limit, Size, Refill, Account, Mem, Cost, Reserved, Keep. -/
structure Ev where
  k : Int
  n : Int
  l : Int
  s : Int
  r : Int
  a : Int
  m : Int
  c : Int
  v : Int
  p : Int
/-- Its numbers, by its kind. -/
def nums (e : Ev) : List Int := if e.k = 0 then [] else if e.k = 1 then [e.n, e.l, e.s, e.r] else if e.k = 2 then [e.n, e.a, e.m, e.c, e.v, e.p] else if e.k = 3 then [e.n, e.s] else [e.n]
def cntE (k : Int) : Nat := if k = 0 then 0 else if k = 1 then 4 else if k = 2 then 6 else if k = 3 then 2 else 1
/-- The event of a kind with these numbers. -/
def mk (k : Int) (x : Nat → Int) : Ev :=
  if k = 0 then ⟨0, 0, 0, 0, 0, 0, 0, 0, 0, 0⟩ else if k = 1 then ⟨k, x 0, x 1, x 2, x 3, 0, 0, 0, 0, 0⟩ else if k = 2 then ⟨k, x 0, 0, 0, 0, x 1, x 2, x 3, x 4, x 5⟩
  else if k = 3 then ⟨k, x 0, 0, x 1, 0, 0, 0, 0, 0, 0⟩ else ⟨k, x 0, 0, 0, 0, 0, 0, 0, 0, 0⟩
/-- The numbers as a function of places. -/
def nth (xs : List Int) (i : Nat) : Int := xs.getD i 0
/-- Whether it can be written. -/
def right (e : Ev) : Prop := 0 ≤ e.k ∧ e.k ≤ 9 ∧ (∀ x ∈ nums e, 0 ≤ x ∧ x ≤ 2147483647) ∧ mk e.k (nth (nums e)) = e
def zero : Ev := ⟨0, 0, 0, 0, 0, 0, 0, 0, 0, 0⟩
theorem nums_len (e : Ev) : (nums e).length = cntE e.k := by
  unfold nums cntE
  by_cases h0 : e.k = 0
  · simp [h0]
  · by_cases h1 : e.k = 1
    · simp [h1]
    · by_cases h2 : e.k = 2
      · simp [h2]
      · by_cases h3 : e.k = 3
        · simp [h3]
        · simp [h0, h1, h2, h3]
theorem cnt_le (k : Int) : cntE k ≤ 6 := by
  unfold cntE; split <;> (try omega); split <;> (try omega); split <;> (try omega); split <;> omega
theorem mk_k (k : Int) (x : Nat → Int) : (mk k x).k = k := by
  unfold mk
  by_cases h0 : k = 0
  · simp [h0]
  · by_cases h1 : k = 1
    · simp [h1]
    · by_cases h2 : k = 2
      · simp [h2]
      · by_cases h3 : k = 3
        · simp [h3]
        · simp [h0, h1, h2, h3]
/-- What an event is made of it has as its numbers. -/
theorem nums_mk (k : Int) (xs : List Int) (hl : xs.length = cntE k) : nums (mk k (nth xs)) = xs := by
  unfold nums
  rw [mk_k]
  unfold cntE at hl
  unfold mk
  by_cases h0 : k = 0
  · simp [h0] at hl ⊢; exact hl
  · by_cases h1 : k = 1
    · rw [if_neg h0, if_pos h1] at hl
      match xs, hl with
      | [a, b, c, d], _ => simp [h1, nth]
    · by_cases h2 : k = 2
      · rw [if_neg h0, if_neg h1, if_pos h2] at hl
        match xs, hl with
        | [a, b, c, d, e, f], _ => simp [h2, nth]
      · by_cases h3 : k = 3
        · rw [if_neg h0, if_neg h1, if_neg h2, if_pos h3] at hl
          match xs, hl with
          | [a, b], _ => simp [h3, nth]
        · rw [if_neg h0, if_neg h1, if_neg h2, if_neg h3] at hl
          match xs, hl with
          | [a], _ => simp [h0, h1, h2, h3, nth]
theorem right_mk {k : Int} {xs : List Int} (h0 : 0 ≤ k) (h9 : k ≤ 9) (hl : xs.length = cntE k) (hx : ∀ x ∈ xs, 0 ≤ x ∧ x ≤ 2147483647) : right (mk k (nth xs)) := by
  refine ⟨by rw [mk_k]; exact h0, by rw [mk_k]; exact h9, by rw [nums_mk k xs hl]; exact hx, by rw [mk_k, nums_mk k xs hl]⟩
theorem right_zero : right zero := by
  refine ⟨by decide, by decide, by simp [nums, zero], by rfl⟩

def ints_ (l : List Nat) : List Int := l.map (fun n : Nat => (n : Int))
theorem map_toNat (l : List Nat) : (ints_ l).map Int.toNat = l := by
  unfold ints_
  rw [List.map_map]
  conv => rhs; rw [← List.map_id l]
  apply List.map_congr_left
  intro x _; simp
theorem enc_nums {e : Ev} (h : right e) : ints_ ((nums e).map Int.toNat) = nums e ∧ (∀ x ∈ (nums e).map Int.toNat, x ≤ 2147483647) := by
  obtain ⟨_, _, h3, _⟩ := h
  constructor
  · unfold ints_
    rw [List.map_map]
    conv => rhs; rw [← List.map_id (nums e)]
    apply List.map_congr_left
    intro x hx
    have := h3 x hx
    simp; omega
  · intro x hx
    obtain ⟨y, hy, rfl⟩ := List.mem_map.1 hx
    have := h3 y hy
    omega
end Go.Proofs.Ytgpookphacdgoaa.W
