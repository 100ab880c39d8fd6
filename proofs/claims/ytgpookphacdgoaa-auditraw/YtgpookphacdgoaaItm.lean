/- Words for a slice of structs that a function of places says, and laws in these words: whatever the program. -/
import Derived.Test.YtgpookphacdgoaaMp
namespace Go.Proofs.Ytgpookphacdgoaa.W
open Go.RowKit

/-- How an item lies in cells: sz of them. -/
structure Enc {I : Type} (ic : I → List Value) (sz : Nat) : Prop where
  len : ∀ x, (ic x).length = sz
  pos : 0 < sz
  one : ∀ x, ∀ u ∈ ic x, u.oneCell' = true

/-- Block g holds room for cap items; the first n are these. -/
def Row {I : Type} (ic : I → List Value) (sz : Nat) (t : TypeId) (w : World) (g n cap : Nat) (T : Nat → I) : Prop :=
  ∃ cur : List Value, w.heap[g]? = some (.cells cur.toArray t (0, 0)) ∧ cur.length = cap * sz ∧ n ≤ cap ∧ cap ≤ maxLen ∧ ∀ j, j < n → ∀ c u, (ic (T j))[c]? = some u → cur[j * sz + c]? = some u

variable {I : Type} {ic : I → List Value} {sz : Nat} {t : TypeId} {w w' : World} {g n cap : Nat} {T T' : Nat → I}

theorem Row.lt (h : Row ic sz t w g n cap T) : g < w.heap.size := by obtain ⟨cur, h, _⟩ := h; exact lt_of_row h
theorem Row.cap_ (h : Row ic sz t w g n cap T) : n ≤ cap ∧ cap ≤ maxLen := by obtain ⟨cur, _, _, h, h', _⟩ := h; exact ⟨h, h'⟩
theorem Row.kept {S : Nat → Prop} (h : Row ic sz t w g n cap T) (ho : Only w w' S) (hg : ¬ S g) : Row ic sz t w' g n cap T := by
  have hl := h.lt
  obtain ⟨cur, h1, h2⟩ := h
  exact ⟨cur, by rw [ho.block g hl hg]; exact h1, h2⟩
theorem Row.less {m : Nat} (h : Row ic sz t w g n cap T) (hm : m ≤ n) : Row ic sz t w g m cap T := by
  obtain ⟨cur, h1, h2, h3, h4, h5⟩ := h
  exact ⟨cur, h1, h2, by omega, h4, fun j hj => h5 j (by omega)⟩
theorem Row.ext (h : Row ic sz t w g n cap T) (e : ∀ j, j < n → T' j = T j) : Row ic sz t w g n cap T' := by
  obtain ⟨cur, h1, h2, h3, h4, h5⟩ := h
  exact ⟨cur, h1, h2, h3, h4, fun j hj => by rw [e j hj]; exact h5 j hj⟩
theorem Row.range (h : Row ic sz t w g n cap T) {j : Nat} (hj : j < n) : w.rangeAt g (j * sz) (ic (T j)) := by
  obtain ⟨cur, h1, h2, h3, h4, h5⟩ := h
  intro c u hu
  exact cellL h1 _ _ (h5 j hj c u hu)
theorem Row.cell (h : Row ic sz t w g n cap T) {j : Nat} (hj : j < n) {c : Nat} {u : Value} (hu : (ic (T j))[c]? = some u) {k : Nat} (hk : k = j * sz + c) : w.cell? ⟨g, k, none⟩ = some u := by
  rw [hk]; exact h.range hj c u hu

def setL : List Value → Nat → List Value → List Value
  | cur, _, [] => cur
  | cur, o, v :: r => setL (cur.set o v) (o + 1) r
theorem setL_len : ∀ (vs cur : List Value) (o : Nat), (setL cur o vs).length = cur.length
  | [], _, _ => rfl
  | v :: r, cur, o => by rw [setL, setL_len r, List.length_set]
theorem setL_out : ∀ (vs cur : List Value) (o j : Nat), (j < o ∨ o + vs.length ≤ j) → (setL cur o vs)[j]? = cur[j]?
  | [], _, _, _, _ => rfl
  | v :: r, cur, o, j, h => by
    rw [setL, setL_out r _ _ j (by simp at h; omega), List.getElem?_set_ne (by simp at h; omega)]
theorem setL_in : ∀ (vs cur : List Value) (o c : Nat), o + vs.length ≤ cur.length → c < vs.length → (setL cur o vs)[o + c]? = vs[c]?
  | [], _, _, _, _, h => by simp at h
  | v :: r, cur, o, c, h, hc => by
    rw [setL]
    cases c with
    | zero =>
      rw [setL_out r _ _ _ (by omega)]
      have : o < cur.length := by simp at h; omega
      simp [this]
    | succ c =>
      have := setL_in r (cur.set o v) (o + 1) c (by simp at h ⊢; omega) (by simp at hc; omega)
      rw [show o + (c + 1) = o + 1 + c by omega, this]; rfl
theorem setCells_row (b : Nat) (t : TypeId) : ∀ (vs cur : List Value) (o : Nat) (w : World), w.heap[b]? = some (.cells cur.toArray t (0, 0)) → (w.setCells b o vs).heap[b]? = some (.cells (setL cur o vs).toArray t (0, 0)) ∧ w.grownBy (w.setCells b o vs) (some b)
  | [], cur, o, w, h => ⟨h, World.grownBy.refl _ _⟩
  | v :: r, cur, o, w, h => by
    rw [World.setCells, setL]
    have h1 := set_rowL h o v
    have h2 := grown_set w 0 b o v
    obtain ⟨h3, h4⟩ := setCells_row b t r _ (o + 1) _ h1
    exact ⟨h3, grown_trans h2 h4⟩

theorem Row.set (E : Enc ic sz) (h : Row ic sz t w g n cap T) {j : Nat} (hj : j < n) (x : I) : Row ic sz t (w.setCells g (j * sz) (ic x)) g n cap (upd T j x) ∧ w.grownBy (w.setCells g (j * sz) (ic x)) (some g) := by
  obtain ⟨cur, h1, h2, h3, h4, h5⟩ := h
  obtain ⟨h6, h7⟩ := setCells_row g t (ic x) cur (j * sz) w h1
  have hjc : (j + 1) * sz ≤ cap * sz := Nat.mul_le_mul_right _ (by omega)
  rw [Nat.add_mul, Nat.one_mul] at hjc
  refine ⟨⟨_, h6, by rw [setL_len]; exact h2, h3, h4, ?_⟩, h7⟩
  intro k hk c u hu
  by_cases e : k = j
  · subst e
    rw [upd_same] at hu
    have hc := (List.getElem?_eq_some_iff.1 hu).1
    rw [setL_in _ _ _ _ (by rw [E.len, h2]; exact hjc) hc]; exact hu
  · rw [upd_ne _ _ e] at hu
    have hc : c < sz := by rw [← E.len (T k)]; exact (List.getElem?_eq_some_iff.1 hu).1
    rw [setL_out]
    · exact h5 k hk c u hu
    · rw [E.len]
      rcases Nat.lt_or_ge k j with q | q
      · left
        have : (k + 1) * sz ≤ j * sz := Nat.mul_le_mul_right _ (by omega)
        rw [Nat.add_mul, Nat.one_mul] at this; omega
      · right
        have : (j + 1) * sz ≤ k * sz := Nat.mul_le_mul_right _ (by omega)
        rw [Nat.add_mul, Nat.one_mul] at this; omega
theorem Row.there (h : Row ic sz t w g n cap T) {j : Nat} (hj : j < n) : w.there g (j * sz) sz := by
  obtain ⟨cur, h1, h2, h3, h4, h5⟩ := h
  have hjc : (j + 1) * sz ≤ cap * sz := Nat.mul_le_mul_right _ (by omega)
  rw [Nat.add_mul, Nat.one_mul] at hjc
  intro c hc
  exact ⟨by rw [cellL h1 _ _ (List.getElem?_eq_getElem (by omega))]; rfl, frozen_of_row _ _ _ _ _ h1⟩

/-- The cells of the first n items, one behind the other. -/
def flat (ic : I → List Value) (T : Nat → I) (n : Nat) : List Value := (List.range n).flatMap (fun j => ic (T j))
theorem flat_succ (T : Nat → I) (n : Nat) : flat ic T (n + 1) = flat ic T n ++ ic (T n) := by simp [flat, List.range_succ]
theorem flat_len (E : Enc ic sz) (T : Nat → I) : ∀ n, (flat ic T n).length = n * sz
  | 0 => by simp [flat]
  | n + 1 => by rw [flat_succ, List.length_append, flat_len E T n, E.len, Nat.add_mul, Nat.one_mul]
theorem flat_at (E : Enc ic sz) (T : Nat → I) : ∀ (n j c : Nat), j < n → c < sz → (flat ic T n)[j * sz + c]? = (ic (T j))[c]?
  | 0, _, _, h, _ => by omega
  | n + 1, j, c, h, hc => by
    rw [flat_succ]
    by_cases e : j = n
    · subst e
      rw [List.getElem?_append_right (by rw [flat_len E]; omega), flat_len E]
      congr 1; omega
    · have : (j + 1) * sz ≤ n * sz := Nat.mul_le_mul_right _ (by omega)
      rw [Nat.add_mul, Nat.one_mul] at this
      rw [List.getElem?_append_left (by rw [flat_len E]; omega)]
      exact flat_at E T n j c (by omega) hc
theorem flat_ext {n : Nat} (e : ∀ j, j < n → T' j = T j) : flat ic T' n = flat ic T n := by
  unfold flat
  rw [List.flatMap_def, List.flatMap_def]
  congr 1
  apply List.map_congr_left
  intro j hj; rw [e j (by simpa using hj)]
theorem Row.owns (E : Enc ic sz) (h : Row ic sz t w g n cap T) : w.ownsRow 0 t sz (.slice (some ⟨g, 0, none⟩) n cap) n (flat ic T n) := by
  obtain ⟨cur, h1, h2, h3, h4, h5⟩ := h
  have hnc : n * sz ≤ cap * sz := Nat.mul_le_mul_right _ h3
  refine ⟨flat_len E T n, Or.inr ⟨g, cap, cur.toArray, rfl, Nat.zero_le _, h1, h3, h4, by simp [h2], ?_⟩⟩
  apply List.ext_getElem?
  intro k
  rcases Nat.lt_or_ge k (n * sz) with q | q
  · have hs := E.pos
    have hk : k = k / sz * sz + k % sz := by rw [Nat.mul_comm]; exact (Nat.div_add_mod k sz).symm
    have hj : k / sz < n := (Nat.div_lt_iff_lt_mul hs).2 q
    have hc : k % sz < sz := Nat.mod_lt _ hs
    have h7 := flat_at E T n _ _ hj hc
    rw [← hk] at h7
    rw [h7, List.getElem?_take_of_lt q]
    obtain ⟨u, hv⟩ : ∃ u, (ic (T (k / sz)))[k % sz]? = some u := ⟨_, List.getElem?_eq_getElem (by rw [E.len]; exact hc)⟩
    have h6 := h5 _ hj _ _ hv
    rw [← hk] at h6
    rw [hv]; exact h6
  · rw [List.getElem?_eq_none (by simp; omega), List.getElem?_eq_none (by rw [flat_len E]; exact q)]
theorem Row.of_owns (E : Enc ic sz) (h : w.ownsRow 0 t sz (.slice (some ⟨g, 0, none⟩) n cap) n (flat ic T n)) : Row ic sz t w g n cap T := by
  rcases h.2 with ⟨hv, _⟩ | ⟨g', cap', cur, hv, _, h1, h3, h4, h2, h5⟩
  · cases hv
  · injection hv with e1 e2 e3
    cases e1; cases e3
    refine ⟨cur.toList, by simpa using h1, by simpa using h2, h3, h4, ?_⟩
    intro j hj c u hu
    have hc : c < sz := by rw [← E.len (T j)]; exact (List.getElem?_eq_some_iff.1 hu).1
    have : (j + 1) * sz ≤ n * sz := Nat.mul_le_mul_right _ (by omega)
    rw [Nat.add_mul, Nat.one_mul] at this
    have h6 := flat_at E T n j c hj hc
    rw [← h5, List.getElem?_take_of_lt (by omega), hu] at h6
    exact h6

/-- A slice of items: nil, or in a block. -/
def Its (ic : I → List Value) (sz : Nat) (t : TypeId) (w : World) (sv : Value) (G : Option Nat) (n : Nat) (T : Nat → I) : Prop :=
  (G = none ∧ sv = .slice none 0 0 ∧ n = 0) ∨ ∃ g cap, G = some g ∧ sv = .slice (some ⟨g, 0, none⟩) n cap ∧ Row ic sz t w g n cap T
theorem Its.kept {sv : Value} {G : Option Nat} {S : Nat → Prop} (h : Its ic sz t w sv G n T) (ho : Only w w' S) (hg : ∀ g, G = some g → ¬ S g) : Its ic sz t w' sv G n T := by
  rcases h with h | ⟨g, cap, h1, h2, h3⟩
  · exact Or.inl h
  · exact Or.inr ⟨g, cap, h1, h2, h3.kept ho (hg g h1)⟩
theorem Its.lt {sv : Value} {G : Option Nat} (h : Its ic sz t w sv G n T) : ∀ g, G = some g → g < w.heap.size := by
  rcases h with ⟨rfl, _⟩ | ⟨g, cap, rfl, _, h3⟩
  · intro g h; cases h
  · intro g' h; cases h; exact h3.lt
theorem Its.some_ {sv : Value} {G : Option Nat} (h : Its ic sz t w sv G n T) (hn : 0 < n) : ∃ g cap, G = some g ∧ sv = .slice (some ⟨g, 0, none⟩) n cap ∧ Row ic sz t w g n cap T := by
  rcases h with ⟨_, _, rfl⟩ | h
  · omega
  · exact h
theorem Its.slice {sv : Value} {G : Option Nat} (h : Its ic sz t w sv G n T) : ∃ A cap, sv = .slice A n cap ∧ n ≤ cap ∧ cap ≤ maxLen := by
  rcases h with ⟨_, rfl, rfl⟩ | ⟨g, cap, _, rfl, h3⟩
  · exact ⟨none, 0, rfl, Nat.le_refl _, Nat.zero_le _⟩
  · exact ⟨_, cap, rfl, h3.cap_⟩

section
variable {P : Program} {ops : Array Oper} {rest : List Oper} {o : Oper} {a : Act} {Q : Exit → Act → World → Prop}

theorem wpList_item_at (hgd : o.guard = none) (ty : TypeId) (x ix : Operand) (ho : o.op = .indexAddr ty x ix) (e : TypeId) (hu : P.underlying ty = some (.slice e)) (hsz : (P.info? e).map (·.size) = some sz)
    (g n cap : Nat) (hx : a.eval x = .slice (some ⟨g, 0, none⟩) n cap) (j : Nat) (q : Int) (hi : a.eval ix = .int .i64 q) (hq : q = (j : Int)) (hj : j < n)
    (h : wpList P ops Q rest (a.put o.dst (.pointer (some ⟨g, j * sz, none⟩))) w) : wpList P ops Q (o :: rest) a w := by
  subst hq
  refine wpList_plain hgd fun K hK => ?_
  cases hq : P.info? e with
  | none => simp [hq] at hsz
  | some ie =>
    have hs : ie.size = sz := by simpa [hq] using hsz
    have hrun : (Instr.indexAt ty (.slice (some ⟨g, 0, none⟩) n cap) (.int .i64 (j : Int))).run P w = .ok (.pointer (some ⟨g, j * sz, none⟩)) w := by
      simp [Instr.indexAt, asIntOf, run_underlying hu, sizeOf, typeInfo, hq, hs, hj, Addr.add_mid]
    unfold Oper.wp execOp
    simp only [ho, hx, hi, hrun, Sem.run_bind, Sem.run_pure, Result.andThen]
    exact hK _ _ h
theorem wpList_item_set (E : Enc ic sz) (hgd : o.guard = none) (ty : TypeId) (x y : Operand) (ho : o.op = .store ty x y) (hsz : (P.info? ty).map (·.size) = some sz)
    (g n cap j : Nat) (T : Nat → I) (hx : a.eval x = .pointer (some ⟨g, j * sz, none⟩)) (u : I) (hy : a.eval y = .agg (ic u).toArray) (hr : Row ic sz t w g n cap T) (hj : j < n)
    (h : ∀ w', Row ic sz t w' g n cap (upd T j u) → w.grownBy w' (some g) → wpList P ops Q rest (a.put o.dst undef) w') : wpList P ops Q (o :: rest) a w := by
  refine wpList_store_mid hgd ty x y ho g (j * sz) (ic u).toArray hx hy (by simpa [E.len] using hr.there hj) (by simpa [E.len] using hsz) (all_oneCell_toArray (E.one u)) ?_
  obtain ⟨h1, h2⟩ := hr.set E hj u
  exact h _ h1 h2
theorem wpList_item_get (E : Enc ic sz) (hgd : o.guard = none) (ty : TypeId) (x : Operand) (ho : o.op = .load ty x) (d : TypeDesc) (hu : P.underlying ty = some d) (hd : d.isRow = true) (hsz : (P.info? ty).map (·.size) = some sz)
    (g n cap j : Nat) (T : Nat → I) (hx : a.eval x = .pointer (some ⟨g, j * sz, none⟩)) (hr : Row ic sz t w g n cap T) (hj : j < n)
    (h : wpList P ops Q rest (a.put o.dst (.agg (ic (T j)).toArray)) w) : wpList P ops Q (o :: rest) a w :=
  wpList_load_mid hgd ty x ho g (j * sz) hx (ic (T j)) d (hr.range hj) hu hd (by rw [E.len]; exact hsz) h

/-- append of one item, which lies in the newest block. -/
theorem wpList_item_app (E : Enc ic sz) (hgd : o.guard = none) (s x : Operand) (ty : TypeId) (ho : o.op = .call { callee := .builtin .append, args := #[s, x], argTypes := #[ty, ty] })
    (i : TypeInfo) (z : Value) (bytes : Nat) (ht : P.underlying ty = some (.slice t)) (hi : P.info? t = some i) (hz : i.zero = some z) (hsize : i.size = sz) (hby : i.bytes = bytes) (hzs : z.cells.size = sz)
    (sv : Value) (G : Option Nat) (n : Nat) (T : Nat → I) (hs : a.eval s = sv) (hits : Its ic sz t w sv G n T) (u : I) (H : Nat) (hx : a.eval x = .slice (some ⟨H, 0, none⟩) 1 1) (hH : w.rangeAt H 0 (ic u)) (hn : n + 1 ≤ maxLen) (hbytes : (n + 1) * bytes ≤ 140737488355328)
    (h : ∀ g cap w', Row ic sz t w' g (n + 1) cap (upd T n u) → (∀ S : Nat → Prop, (∀ g', G = some g' → S g') → Only w w' S) → (G = some g ∨ w.heap.size ≤ g) → wpList P ops Q rest (a.put o.dst (.slice (some ⟨g, 0, none⟩) (n + 1) cap)) w') : wpList P ops Q (o :: rest) a w := by
  have hown : w.ownsRow 0 t sz sv n (flat ic T n) ∧ sv.ownBlock = G := by
    rcases hits with ⟨rfl, rfl, rfl⟩ | ⟨g, cap, rfl, rfl, h3⟩
    · exact ⟨⟨by simp [flat], Or.inl ⟨rfl, rfl⟩⟩, rfl⟩
    · exact ⟨h3.owns E, rfl⟩
  refine wpList_append_lies w hgd s x ty ho 0 t i z sz bytes ht hi hz hsize hby hzs E.pos sv n (flat ic T n) hs hown.1 ⟨H, 0, none⟩ 1 1 (ic u) hx (by rw [E.len, Nat.one_mul]) ?_ (E.one u) (by omega) hn hbytes (Nat.zero_le _) _ rfl ?_
  · intro j v hv
    rw [Addr.add_mid]; exact hH j v hv
  · intro g cap w' h1 h2 h3 h4
    refine h g cap w' (Row.of_owns E ?_) ?_ ?_
    · rw [flat_succ, upd_same, flat_ext (T' := upd T n u) (T := T) (fun j hj => upd_ne _ _ (by omega))]; exact h1
    · intro S hS
      rw [hown.2] at h2
      exact ⟨h2.os, h2.tape, h2.output, h2.size, fun k hk hn => h2.block k hk (fun q => hn (hS k q.symm))⟩
    · rw [hown.2] at h3
      rcases h3 with h3 | h3
      · exact Or.inl h3
      · exact Or.inr (by omega)
end
end Go.Proofs.Ytgpookphacdgoaa.W
