/- Events as bytes: plain, no program. -/
import Derived.Test.YtkfhgdnlieaedaaWireI
namespace Go.Proofs.Ytkfhgdnlieaedaa.W

/-- An event: its kind, N, Limit, Size, Refill, Account, Mem, Cost, Reserved, Keep. -/
structure Ev where
  k : Int
  n : Int
  l : Int
  s : Int
  r : Int
  a : Int
  m : Int
  c : Int
  v : Int
  p : Int
/-- Its numbers, by its kind. -/
def nums (e : Ev) : List Int := if e.k = 0 then [] else if e.k = 1 then [e.n, e.l, e.s, e.r] else if e.k = 2 then [e.n, e.a, e.m, e.c, e.v, e.p] else if e.k = 3 then [e.n, e.s] else [e.n]
def cnt (k : Int) : Nat := if k = 0 then 0 else if k = 1 then 4 else if k = 2 then 6 else if k = 3 then 2 else 1
/-- The event of a kind with these numbers. -/
def mk (k : Int) (x : Nat → Int) : Ev :=
  if k = 0 then ⟨0, 0, 0, 0, 0, 0, 0, 0, 0, 0⟩ else if k = 1 then ⟨k, x 0, x 1, x 2, x 3, 0, 0, 0, 0, 0⟩ else if k = 2 then ⟨k, x 0, 0, 0, 0, x 1, x 2, x 3, x 4, x 5⟩
  else if k = 3 then ⟨k, x 0, 0, x 1, 0, 0, 0, 0, 0, 0⟩ else ⟨k, x 0, 0, 0, 0, 0, 0, 0, 0, 0⟩
/-- The numbers as a function of places. -/
def nth (xs : List Int) (i : Nat) : Int := xs.getD i 0
/-- Whether it can be written. -/
def right (e : Ev) : Prop := 0 ≤ e.k ∧ e.k ≤ 9 ∧ (∀ x ∈ nums e, 0 ≤ x ∧ x ≤ 2147483647) ∧ mk e.k (nth (nums e)) = e
def zero : Ev := ⟨0, 0, 0, 0, 0, 0, 0, 0, 0, 0⟩
/-- Its bytes. -/
def evB (e : Ev) : List Nat := enc e.k.toNat ++ encs ((nums e).map Int.toNat)
def evsB (l : List Ev) : List Nat := l.flatMap evB

theorem nums_len (e : Ev) : (nums e).length = cnt e.k := by
  unfold nums cnt
  by_cases h0 : e.k = 0
  · simp [h0]
  · by_cases h1 : e.k = 1
    · simp [h1]
    · by_cases h2 : e.k = 2
      · simp [h2]
      · by_cases h3 : e.k = 3
        · simp [h3]
        · simp [h0, h1, h2, h3]
theorem cnt_le (k : Int) : cnt k ≤ 6 := by
  unfold cnt; split <;> (try omega); split <;> (try omega); split <;> (try omega); split <;> omega
theorem mk_k (k : Int) (x : Nat → Int) : (mk k x).k = k := by
  unfold mk
  by_cases h0 : k = 0
  · simp [h0]
  · by_cases h1 : k = 1
    · simp [h1]
    · by_cases h2 : k = 2
      · simp [h2]
      · by_cases h3 : k = 3
        · simp [h3]
        · simp [h0, h1, h2, h3]
/-- What an event is made of it has as its numbers. -/
theorem nums_mk (k : Int) (xs : List Int) (hl : xs.length = cnt k) : nums (mk k (nth xs)) = xs := by
  unfold nums
  rw [mk_k]
  unfold cnt at hl
  unfold mk
  by_cases h0 : k = 0
  · simp [h0] at hl ⊢; exact hl
  · by_cases h1 : k = 1
    · rw [if_neg h0, if_pos h1] at hl
      match xs, hl with
      | [a, b, c, d], _ => simp [h1, nth]
    · by_cases h2 : k = 2
      · rw [if_neg h0, if_neg h1, if_pos h2] at hl
        match xs, hl with
        | [a, b, c, d, e, f], _ => simp [h2, nth]
      · by_cases h3 : k = 3
        · rw [if_neg h0, if_neg h1, if_neg h2, if_pos h3] at hl
          match xs, hl with
          | [a, b], _ => simp [h3, nth]
        · rw [if_neg h0, if_neg h1, if_neg h2, if_neg h3] at hl
          match xs, hl with
          | [a], _ => simp [h0, h1, h2, h3, nth]
theorem right_mk {k : Int} {xs : List Int} (h0 : 0 ≤ k) (h9 : k ≤ 9) (hl : xs.length = cnt k) (hx : ∀ x ∈ xs, 0 ≤ x ∧ x ≤ 2147483647) : right (mk k (nth xs)) := by
  refine ⟨by rw [mk_k]; exact h0, by rw [mk_k]; exact h9, by rw [nums_mk k xs hl]; exact hx, by rw [mk_k, nums_mk k xs hl]⟩
theorem right_zero : right zero := by
  refine ⟨by decide, by decide, by simp [nums, zero], by rfl⟩

/-- What a reader that stands at a tells of so many numbers, where it stands then, and its error. -/
def rds (bs : List Nat) : Nat → Nat → Nat → List Nat × Nat × Nat
  | 0, a, er => ([], a, er)
  | n + 1, a, er => (nV bs a er 2147483647 :: (rds bs n (nA bs a er 2147483647) (nE bs a er 2147483647)).1, (rds bs n (nA bs a er 2147483647) (nE bs a er 2147483647)).2)
def ints_ (l : List Nat) : List Int := l.map (fun n : Nat => (n : Int))
/-- The kind, and the numbers, at a. -/
def nxK (bs : List Nat) (a : Nat) : Nat := nV bs a 0 9
def nxR (bs : List Nat) (a : Nat) : List Nat × Nat × Nat := rds bs (cnt (nxK bs a)) (nA bs a 0 9) (nE bs a 0 9)
def nxE (bs : List Nat) (a : Nat) : Ev := mk (nxK bs a) (nth (ints_ (nxR bs a).1))
def nxA (bs : List Nat) (a : Nat) : Nat := (nxR bs a).2.1
def nxF (bs : List Nat) (a : Nat) : Nat := (nxR bs a).2.2

theorem rds_len (bs : List Nat) : ∀ n a er, (rds bs n a er).1.length = n
  | 0, _, _ => rfl
  | n + 1, a, er => by rw [rds, List.length_cons, rds_len bs n]
theorem rds_err (bs : List Nat) {er : Nat} (h : er ≠ 0) : ∀ n a, (rds bs n a er).2 = (a, er)
  | 0, _ => rfl
  | n + 1, a => by
    obtain ⟨_, e2, e3⟩ := n_err (bs := bs) (a := a) (most := 2147483647) h
    rw [rds, e2, e3]; exact rds_err bs h n a
theorem nE_of (bs : List Nat) (a er most : Nat) (h : er = 0 ∨ er = 1 ∨ er = 5) : nE bs a er most = 0 ∨ nE bs a er most = 1 ∨ nE bs a er most = 5 := by
  unfold nE
  split
  · exact h
  · split
    · simp
    · split <;> simp
theorem rds_of (bs : List Nat) : ∀ n a er, (er = 0 ∨ er = 1 ∨ er = 5) → (rds bs n a er).2.2 = 0 ∨ (rds bs n a er).2.2 = 1 ∨ (rds bs n a er).2.2 = 5
  | 0, _, _, h => h
  | n + 1, a, er, h => by rw [rds]; exact rds_of bs n _ _ (nE_of bs a er _ h)
theorem nxF_of (bs : List Nat) (a : Nat) : nxF bs a = 0 ∨ nxF bs a = 1 ∨ nxF bs a = 5 := rds_of bs _ _ _ (nE_of bs a 0 _ (Or.inl rfl))
theorem rds_le (bs : List Nat) : ∀ n a er, a ≤ bs.length → (rds bs n a er).2.1 ≤ bs.length
  | 0, _, _, h => h
  | n + 1, a, er, h => by rw [rds]; exact rds_le bs n _ _ (nA_le h)
theorem nxA_le {bs : List Nat} {a : Nat} (h : a ≤ bs.length) : nxA bs a ≤ bs.length := rds_le bs _ _ _ (nA_le h)

/-- A number that was read stands there. -/
theorem num_ok {bs : List Nat} {a most : Nat} (hb : ∀ x ∈ bs, x < 256) (h : nE bs a 0 most = 0) :
    bs.drop a = enc (nV bs a 0 most) ++ bs.drop (nA bs a 0 most) ∧ nV bs a 0 most ≤ most ∧ nA bs a 0 most = a + (enc (nV bs a 0 most)).length := by
  have hf : fin 0 (bs.drop a) ≠ 0 := by
    intro q
    rw [(n_form q).2.2] at h; cases h
  have hm : ¬ most < val ((bs.drop a).take (fin 0 (bs.drop a))) := by
    intro q
    rw [(n_arg hf q).2.2] at h; cases h
  obtain ⟨e1, e2, _⟩ := n_ok (bs := bs) (a := a) (most := most) hf (by omega)
  obtain ⟨o1, _⟩ := fin_ones (bs.drop a) 0 (fun c hc => hb c (List.mem_of_mem_drop hc)) (by omega) hf
  have hl := fin_le (bs.drop a) 0
  rw [e1, e2, o1]
  refine ⟨?_, by omega, by rw [List.length_take]; omega⟩
  rw [← List.drop_drop, List.take_append_drop]
theorem num_bad {bs : List Nat} {a er most : Nat} (h : er ≠ 0) : nE bs a er most ≠ 0 := by rw [(n_err h).2.2]; exact h
theorem rds_ok {bs : List Nat} (hb : ∀ x ∈ bs, x < 256) : ∀ n a er, (rds bs n a er).2.2 = 0 →
    er = 0 ∧ bs.drop a = encs (rds bs n a er).1 ++ bs.drop (rds bs n a er).2.1 ∧ (∀ x ∈ (rds bs n a er).1, x ≤ 2147483647) ∧ (rds bs n a er).2.1 = a + (encs (rds bs n a er).1).length
  | 0, a, er => by
    intro h
    exact ⟨h, by simp [rds, encs], by simp [rds], by simp [rds, encs]⟩
  | n + 1, a, er => by
    intro h
    rw [rds] at h ⊢
    obtain ⟨h1, h2, h3, h4⟩ := rds_ok hb n _ _ h
    have he : er = 0 := by
      rcases Nat.eq_zero_or_pos er with q | q
      · exact q
      · exact absurd h1 (num_bad (by omega))
    subst he
    obtain ⟨k1, k2, k3⟩ := num_ok hb h1
    refine ⟨rfl, ?_, ?_, ?_⟩
    · rw [k1, h2]; simp [encs]
    · intro x hx
      rcases List.mem_cons.1 hx with q | q
      · rw [q]; exact k2
      · exact h3 x q
    · rw [h4, k3]; simp [encs]; omega

theorem map_toNat (l : List Nat) : (ints_ l).map Int.toNat = l := by
  unfold ints_
  rw [List.map_map]
  conv => rhs; rw [← List.map_id l]
  apply List.map_congr_left
  intro x _; simp
/-- An event that was read stands there, and can be written. -/
theorem nx_ok {bs : List Nat} {a : Nat} (hb : ∀ x ∈ bs, x < 256) (h : nxF bs a = 0) :
    right (nxE bs a) ∧ bs.drop a = evB (nxE bs a) ++ bs.drop (nxA bs a) ∧ nxA bs a = a + (evB (nxE bs a)).length := by
  unfold nxF nxR at h
  obtain ⟨h1, h2, h3, h4⟩ := rds_ok hb _ _ _ h
  obtain ⟨k1, k2, k3⟩ := num_ok hb h1
  have hl : (ints_ (nxR bs a).1).length = cnt (nxK bs a : Int) := by unfold ints_ nxR; rw [List.length_map, rds_len]
  have e : evB (nxE bs a) = enc (nxK bs a) ++ encs (nxR bs a).1 := by
    unfold evB nxE
    rw [mk_k, nums_mk _ _ hl, map_toNat]; simp
  refine ⟨right_mk (by omega) (by unfold nxK; omega) hl ?_, ?_, ?_⟩
  · intro x hx
    unfold ints_ at hx
    obtain ⟨y, hy, rfl⟩ := List.mem_map.1 hx
    have := h3 y hy
    omega
  · rw [e, List.append_assoc]
    unfold nxA
    rw [k1]
    congr 1
  · rw [e, List.length_append]
    unfold nxA nxR
    rw [h4, k3]
    unfold nxK
    omega

theorem rds_enc (r : List Nat) : ∀ (ns : List Nat) (pre : List Nat), (∀ x ∈ ns, x ≤ 2147483647) → rds (pre ++ (encs ns ++ r)) ns.length pre.length 0 = (ns, pre.length + (encs ns).length, 0)
  | [], pre => by intro _; simp [rds, encs]
  | n :: t, pre => by
    intro h
    have hn := h n (by simp)
    have e : pre ++ (encs (n :: t) ++ r) = pre ++ (enc n ++ (encs t ++ r)) := by simp [encs]
    obtain ⟨h1, h2, h3⟩ := n_enc (pre := pre) (r := encs t ++ r) (n := n) (most := 2147483647) (by omega) hn
    rw [List.length_cons, rds, e, h1, h2, h3]
    have ih := rds_enc r t (pre ++ enc n) (fun x hx => h x (by simp [hx]))
    rw [List.length_append, List.append_assoc] at ih
    rw [ih]
    simp [encs]; omega
theorem enc_nums {e : Ev} (h : right e) : ints_ ((nums e).map Int.toNat) = nums e ∧ (∀ x ∈ (nums e).map Int.toNat, x ≤ 2147483647) := by
  obtain ⟨_, _, h3, _⟩ := h
  constructor
  · unfold ints_
    rw [List.map_map]
    conv => rhs; rw [← List.map_id (nums e)]
    apply List.map_congr_left
    intro x hx
    have := h3 x hx
    simp; omega
  · intro x hx
    obtain ⟨y, hy, rfl⟩ := List.mem_map.1 hx
    have := h3 y hy
    omega
/-- What was written is read. -/
theorem nx_enc {e : Ev} (h : right e) (pre r : List Nat) :
    nxE (pre ++ (evB e ++ r)) pre.length = e ∧ nxA (pre ++ (evB e ++ r)) pre.length = pre.length + (evB e).length ∧ nxF (pre ++ (evB e ++ r)) pre.length = 0 := by
  obtain ⟨g1, g2⟩ := enc_nums h
  obtain ⟨h0, h9, h3, h4⟩ := h
  have eb : pre ++ (evB e ++ r) = pre ++ (enc e.k.toNat ++ (encs ((nums e).map Int.toNat) ++ r)) := by simp [evB]
  obtain ⟨k1, k2, k3⟩ := n_enc (pre := pre) (r := encs ((nums e).map Int.toNat) ++ r) (n := e.k.toNat) (most := 9) (by omega) (by omega)
  have hK : nxK (pre ++ (evB e ++ r)) pre.length = e.k.toNat := by unfold nxK; rw [eb]; exact k1
  have hk : ((e.k.toNat : Nat) : Int) = e.k := by omega
  have hR : nxR (pre ++ (evB e ++ r)) pre.length = ((nums e).map Int.toNat, pre.length + (evB e).length, 0) := by
    unfold nxR
    rw [hK, hk, eb, k2, k3]
    have := rds_enc r ((nums e).map Int.toNat) (pre ++ enc e.k.toNat) g2
    rw [List.length_append, List.append_assoc, List.length_map, nums_len] at this
    rw [this]
    simp [evB]; omega
  refine ⟨?_, ?_, ?_⟩
  · unfold nxE
    rw [hK, hk, hR, g1]; exact h4
  · unfold nxA; rw [hR]
  · unfold nxF; rw [hR]

theorem evB_pos (e : Ev) : 0 < (evB e).length := by unfold evB; rw [List.length_append]; have := enc_pos e.k.toNat; omega
theorem encs_len5 : ∀ (l : List Nat), (∀ x ∈ l, x ≤ 2147483647) → (encs l).length ≤ 5 * l.length
  | [], _ => by simp [encs]
  | n :: t, h => by
    have := encs_len5 t (fun x hx => h x (by simp [hx]))
    have := enc_len 4 n (by have := h n (by simp); omega)
    unfold encs at *
    rw [List.flatMap_cons, List.length_append, List.length_cons]; omega
theorem evB_len {e : Ev} (h : right e) : (evB e).length ≤ 31 := by
  have h1 := encs_len5 _ (enc_nums h).2
  rw [List.length_map, nums_len] at h1
  have h2 := cnt_le e.k
  have h3 : (enc e.k.toNat).length = 1 := by rw [enc_small (by have := h.2.1; omega)]; rfl
  unfold evB
  rw [List.length_append]; omega
theorem evB_byte (e : Ev) : ∀ x ∈ evB e, x < 256 := by
  intro x hx
  unfold evB at hx
  rcases List.mem_append.1 hx with h | h
  · exact enc_byte _ x h
  · exact encs_byte _ x h
theorem evsB_byte (l : List Ev) : ∀ x ∈ evsB l, x < 256 := by
  intro x hx
  obtain ⟨e, _, h⟩ := List.mem_flatMap.1 hx
  exact evB_byte e x h
theorem evsB_snoc (l : List Ev) (e : Ev) : evsB (l ++ [e]) = evsB l ++ evB e := by simp [evsB]
theorem evsB_len : ∀ (l : List Ev), (∀ e ∈ l, right e) → (evsB l).length ≤ 31 * l.length
  | [], _ => by simp [evsB]
  | e :: t, h => by
    have := evsB_len t (fun x hx => h x (by simp [hx]))
    have := evB_len (h e (by simp))
    unfold evsB at *
    rw [List.flatMap_cons, List.length_append, List.length_cons]; omega

/-- From a on stand these events, up to b. -/
def run (bs : List Nat) : Nat → List Ev → Nat → Prop
  | a, [], b => b = a
  | a, e :: t, b => a < bs.length ∧ nxF bs a = 0 ∧ nxE bs a = e ∧ run bs (nxA bs a) t b
theorem run_snoc {bs : List Nat} {e : Ev} : ∀ (l : List Ev) {a b : Nat}, run bs a l b → b < bs.length → nxF bs b = 0 → nxE bs b = e → run bs a (l ++ [e]) (nxA bs b)
  | [], a, b, h, h1, h2, h3 => by
    cases h
    exact ⟨h1, h2, h3, rfl⟩
  | x :: t, a, b, h, h1, h2, h3 => ⟨h.1, h.2.1, h.2.2.1, run_snoc t h.2.2.2 h1 h2 h3⟩
theorem run_le {bs : List Nat} : ∀ (l : List Ev) {a b : Nat}, run bs a l b → a ≤ bs.length → b ≤ bs.length
  | [], a, b, h, h1 => by cases h; exact h1
  | x :: t, a, b, h, h1 => run_le t h.2.2.2 (nxA_le h1)
theorem run_ok {bs : List Nat} (hb : ∀ x ∈ bs, x < 256) : ∀ (l : List Ev) {a b : Nat}, run bs a l b → (∀ e ∈ l, right e) ∧ bs.drop a = evsB l ++ bs.drop b ∧ b = a + (evsB l).length
  | [], a, b, h => by cases h; exact ⟨by simp, by simp [evsB], by simp [evsB]⟩
  | x :: t, a, b, h => by
    obtain ⟨_, h2, rfl, h4⟩ := h
    obtain ⟨k1, k2, k3⟩ := nx_ok hb h2
    obtain ⟨i1, i2, i3⟩ := run_ok hb t h4
    refine ⟨?_, ?_, ?_⟩
    · intro e he
      rcases List.mem_cons.1 he with q | q
      · rw [q]; exact k1
      · exact i1 e q
    · rw [k2, i2]; simp [evsB]
    · rw [i3, k3]; simp [evsB]; omega
theorem run_all (r : List Nat) : ∀ (l : List Ev) (pre : List Nat), (∀ e ∈ l, right e) → run (pre ++ (evsB l ++ r)) pre.length l (pre.length + (evsB l).length)
  | [], pre => by intro _; simp [run, evsB]
  | e :: t, pre => by
    intro h
    have eb : pre ++ (evsB (e :: t) ++ r) = pre ++ (evB e ++ (evsB t ++ r)) := by simp [evsB]
    obtain ⟨h1, h2, h3⟩ := nx_enc (h e (by simp)) pre (evsB t ++ r)
    have ih := run_all r t (pre ++ evB e) (fun x hx => h x (by simp [hx]))
    rw [List.append_assoc, List.length_append] at ih
    rw [eb]
    refine ⟨by have := evB_pos e; simp; omega, h3, h1, ?_⟩
    rw [h2]
    have el : pre.length + (evsB (e :: t)).length = pre.length + (evB e).length + (evsB t).length := by simp [evsB]; omega
    rw [el]; exact ih
theorem run_det {bs : List Nat} : ∀ (l l' : List Ev) {a b c : Nat}, run bs a l b → run bs a l' c → (∃ r, l' = l ++ r ∧ run bs b r c) ∨ (∃ r, l = l' ++ r ∧ run bs c r b)
  | [], l', a, b, c, h, h' => by cases h; exact Or.inl ⟨l', rfl, h'⟩
  | x :: t, [], a, b, c, h, h' => by cases h'; exact Or.inr ⟨x :: t, rfl, h⟩
  | x :: t, y :: t', a, b, c, h, h' => by
    obtain ⟨_, _, rfl, h4⟩ := h
    obtain ⟨_, _, rfl, h8⟩ := h'
    rcases run_det t t' h4 h8 with ⟨r, h9, h10⟩ | ⟨r, h9, h10⟩
    · exact Or.inl ⟨r, by rw [h9]; rfl, h10⟩
    · exact Or.inr ⟨r, by rw [h9]; rfl, h10⟩
theorem run_end {bs : List Nat} {l : List Ev} {b : Nat} (h : run bs bs.length l b) : l = [] := by
  cases l with
  | nil => rfl
  | cons x t => exact absurd h.1 (Nat.lt_irrefl _)

/-- What is told of bytes: these events, up to b, and why no more. -/
def AllR (bs : List Nat) (l : List Ev) (b er : Nat) : Prop :=
  run bs 0 l b ∧ l.length ≤ 16384 ∧ b ≤ bs.length ∧ ((er = 0 ∧ b = bs.length) ∨ (b < bs.length ∧ er ≠ 0 ∧ nxF bs b = er) ∨ (b < bs.length ∧ er = 6 ∧ l.length = 16384 ∧ nxF bs b = 0))
/-- Bytes that are events from end to end. -/
theorem AllR.whole {bs : List Nat} {l l' : List Ev} {b er : Nat} (h : AllR bs l b er) (h' : run bs 0 l' bs.length) : 
    (l = l' ∧ b = bs.length ∧ er = 0) ∨ (16384 < l'.length ∧ er = 6 ∧ l.length = 16384 ∧ ∃ r, l' = l ++ r ∧ run bs b r bs.length) := by
  obtain ⟨h1, h2, h3, h4⟩ := h
  rcases run_det l l' h1 h' with ⟨r, e, hr⟩ | ⟨r, e, hr⟩
  · cases r with
    | nil =>
      cases hr
      rw [List.append_nil] at e
      rcases h4 with ⟨h4, _⟩ | ⟨h4, _⟩ | ⟨h4, _⟩
      · exact Or.inl ⟨e.symm, rfl, h4⟩
      · exact absurd h4 (Nat.lt_irrefl _)
      · exact absurd h4 (Nat.lt_irrefl _)
    | cons x t =>
      rcases h4 with ⟨_, h5⟩ | ⟨_, h5, h6⟩ | ⟨_, h5, h6, _⟩
      · exact absurd hr.1 (by omega)
      · exact absurd (hr.2.1.symm.trans h6).symm h5
      · exact Or.inr ⟨by rw [e]; simp; omega, h5, h6, x :: t, e, hr⟩
  · have := run_end hr
    subst this
    rw [List.append_nil] at e
    cases hr
    rcases h4 with ⟨h4, _⟩ | ⟨h4, _⟩ | ⟨h4, _⟩
    · exact Or.inl ⟨e, rfl, h4⟩
    · exact absurd h4 (Nat.lt_irrefl _)
    · exact absurd h4 (Nat.lt_irrefl _)
end Go.Proofs.Ytkfhgdnlieaedaa.W
