/- Events as bytes: bytes cut off, bytes from a place on, noughts: plain, no program. -/
import Derived.Test.YtkfhgdnlieaedaaEvM
namespace Go.Proofs.Ytkfhgdnlieaedaa.W

theorem rds_cut : ∀ (ns : List Nat) (pre : List Nat) (q : Nat), q < (encs ns).length → (∀ x ∈ ns, x ≤ 2147483647) → (rds (pre ++ (encs ns).take q) ns.length pre.length 0).2.2 = 5
  | [], pre, q => by intro h; simp [encs] at h
  | n :: t, pre, q => by
    intro h hx
    have e : encs (n :: t) = enc n ++ encs t := by simp [encs]
    rw [e] at h ⊢
    rw [List.length_cons, rds]
    by_cases hq : q < (enc n).length
    · rw [List.take_append_of_le_length (by omega)]
      have hf : fin 0 ((pre ++ (enc n).take q).drop pre.length) = 0 := by rw [List.drop_left]; exact fin_cut n 0 q hq
      obtain ⟨_, h2, h3⟩ := n_form (bs := pre ++ (enc n).take q) (a := pre.length) (most := 2147483647) hf
      rw [h2, h3, rds_err _ (by omega)]
    · have et : (enc n ++ encs t).take q = enc n ++ (encs t).take (q - (enc n).length) := by
        rw [List.take_append, List.take_of_length_le (by omega)]
      rw [et]
      obtain ⟨_, h2, h3⟩ := n_enc (pre := pre) (r := (encs t).take (q - (enc n).length)) (n := n) (most := 2147483647) (by have := hx n (by simp); omega) (hx n (by simp))
      rw [h2, h3]
      have ih := rds_cut t (pre ++ enc n) (q - (enc n).length) (by rw [List.length_append] at h; omega) (fun x hm => hx x (by simp [hm]))
      rw [List.length_append, List.append_assoc] at ih
      exact ih
/-- An event's bytes cut off are none. -/
theorem nx_cut {e : Ev} (h : right e) {q : Nat} (hq : q < (evB e).length) : nxF ((evB e).take q) 0 = 5 := by
  obtain ⟨g1, g2⟩ := enc_nums h
  have hk := h.2.1
  unfold nxF nxR nxK
  have eb : evB e = enc e.k.toNat ++ encs ((nums e).map Int.toNat) := rfl
  rw [eb] at hq ⊢
  by_cases h1 : q < (enc e.k.toNat).length
  · rw [List.take_append_of_le_length (by omega)]
    have hf : fin 0 (((enc e.k.toNat).take q).drop 0) = 0 := by rw [List.drop_zero]; exact fin_cut _ 0 q h1
    obtain ⟨h0, h2, h3⟩ := n_form (bs := (enc e.k.toNat).take q) (a := 0) (most := 9) hf
    rw [h0, h2, h3, rds_err _ (by omega)]
  · have et : (enc e.k.toNat ++ encs ((nums e).map Int.toNat)).take q = enc e.k.toNat ++ (encs ((nums e).map Int.toNat)).take (q - (enc e.k.toNat).length) := by
      rw [List.take_append, List.take_of_length_le (by omega)]
    rw [et]
    obtain ⟨h0, h2, h3⟩ := n_enc (pre := []) (r := (encs ((nums e).map Int.toNat)).take (q - (enc e.k.toNat).length)) (n := e.k.toNat) (most := 9) (by omega) (by omega)
    simp only [List.nil_append, List.length_nil, Nat.zero_add] at h0 h2 h3
    rw [h0, h2, h3]
    have hc : cnt ((e.k.toNat : Nat) : Int) = ((nums e).map Int.toNat).length := by
      rw [List.length_map, nums_len]; congr 1; have := h.1; omega
    rw [hc]
    exact rds_cut _ (enc e.k.toNat) _ (by rw [List.length_append] at hq; omega) g2

theorem fin_take : ∀ (l : List Nat) (i m : Nat), i ≤ 9 → 10 ≤ i + m → fin i (l.take m) = fin i l
  | [], i, m => by intro _ _; simp
  | c :: t, i, m => by
    intro h9 hm
    obtain ⟨m, rfl⟩ : ∃ m', m = m' + 1 := ⟨m - 1, by omega⟩
    rw [List.take_succ_cons, fin, fin]
    by_cases bad : (0 < i ∧ c = 0) ∨ (i = 9 ∧ 1 < c)
    · rw [if_pos bad, if_pos bad]
    · rw [if_neg bad, if_neg bad]
      by_cases hs : c < 128
      · rw [if_pos hs, if_pos hs]
      · rw [if_neg hs, if_neg hs, fin_take t (i + 1) m (by omega) (by omega)]
theorem fin_ten : ∀ (l : List Nat) (i : Nat), i ≤ 9 → fin i l ≤ 10 - i
  | [], i => by intro _; simp [fin]
  | c :: t, i => by
    intro h9
    rw [fin]
    split
    · omega
    · split
      · omega
      · have := fin_ten t (i + 1) (by omega)
        split <;> omega
theorem cut_drop (bs : List Nat) (n m a : Nat) : ((bs.drop n).take m).drop a = (bs.drop (n + a)).take (m - a) := by
  rw [List.drop_take, List.drop_drop]
theorem n_far (bs : List Nat) (n m a er most : Nat) (h : a + 10 ≤ m) :
    nV ((bs.drop n).take m) a er most = nV bs (n + a) er most ∧ nE ((bs.drop n).take m) a er most = nE bs (n + a) er most ∧ n + nA ((bs.drop n).take m) a er most = nA bs (n + a) er most ∧ nA ((bs.drop n).take m) a er most ≤ a + 10 := by
  have hf : fin 0 (((bs.drop n).take m).drop a) = fin 0 (bs.drop (n + a)) := by rw [cut_drop]; exact fin_take _ 0 _ (by omega) (by omega)
  have h10 := fin_ten (bs.drop (n + a)) 0 (by omega)
  have ht : (((bs.drop n).take m).drop a).take (fin 0 (bs.drop (n + a))) = (bs.drop (n + a)).take (fin 0 (bs.drop (n + a))) := by
    rw [cut_drop, List.take_take, Nat.min_eq_left (by omega)]
  unfold nV nE nA
  rw [hf, ht]
  refine ⟨rfl, rfl, ?_, ?_⟩
  · split
    · rfl
    · split
      · rfl
      · split <;> omega
  · split
    · omega
    · split
      · omega
      · split <;> omega
theorem rds_far (bs : List Nat) (n m : Nat) : ∀ (c a er : Nat), a + 10 * c ≤ m → (rds ((bs.drop n).take m) c a er).2.2 = (rds bs c (n + a) er).2.2
  | 0, _, _, _ => rfl
  | c + 1, a, er, h => by
    obtain ⟨_, h2, h3, h4⟩ := n_far bs n m a er 2147483647 (by omega)
    rw [rds, rds, h2, ← h3]
    exact rds_far bs n m c _ _ (by omega)
/-- Why there is no event is told by the next few bytes. -/
theorem nx_far (bs : List Nat) (n : Nat) : nxF ((bs.drop n).take 70) 0 = nxF bs n := by
  obtain ⟨h1, h2, h3, h4⟩ := n_far bs n 70 0 0 9 (by omega)
  simp only [Nat.add_zero] at h1 h2 h3
  unfold nxF nxR nxK
  rw [h1, h2, ← h3]
  have := cnt_le (nV bs n 0 9 : Int)
  exact rds_far bs n 70 _ _ _ (by omega)

theorem evB_zero : evB zero = [0] := by simp [evB, nums, zero, encs, enc_small]
theorem evsB_zero : ∀ n, evsB (List.replicate n zero) = List.replicate n 0
  | 0 => rfl
  | n + 1 => by
    have := evsB_zero n
    unfold evsB at *
    rw [List.replicate_succ, List.flatMap_cons, this, evB_zero]; rfl
theorem evsB_len0 : ∀ (l : List Ev), (∀ e ∈ l, e = zero) → (evsB l).length = l.length
  | [], _ => rfl
  | e :: t, h => by
    have := evsB_len0 t (fun x hx => h x (by simp [hx]))
    unfold evsB at *
    rw [List.flatMap_cons, List.length_append, this, h e (by simp), evB_zero]; simp; omega
/-- Noughts are ticks. -/
theorem many_is {n : Nat} {l : List Ev} {b er : Nat} (h : AllR (List.replicate n 0) l b er) : (n ≤ 16384 ∧ er = 0 ∧ b = n ∧ l.length = n) ∨ (16384 < n ∧ er = 6 ∧ b = 16384 ∧ l.length = 16384) := by
  have hall : ∀ e ∈ List.replicate n zero, e = zero := fun e he => (List.mem_replicate.1 he).2
  have hr := run_all [] (List.replicate n zero) [] (fun e he => by rw [hall e he]; exact right_zero)
  simp only [List.append_nil, List.nil_append, List.length_nil, Nat.zero_add, evsB_zero] at hr
  rcases h.whole hr with ⟨h1, h2, h3⟩ | ⟨h1, h2, h3, r, h4, h5⟩
  · left
    have := h.2.1
    subst h1
    rw [List.length_replicate] at this h2
    exact ⟨this, h3, h2, by simp⟩
  · right
    rw [List.length_replicate] at h1
    refine ⟨h1, h2, ?_, h3⟩
    obtain ⟨_, _, k3⟩ := run_ok (fun x hx => by rw [(List.mem_replicate.1 hx).2]; omega) l h.1
    rw [k3, evsB_len0 l (fun e he => hall e (by rw [h4]; simp [he])), h3]
end Go.Proofs.Ytkfhgdnlieaedaa.W
