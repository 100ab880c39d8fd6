/- Words for memory, and laws in these words for make, copy and append: whatever the program. -/
import Derived.WalkKit
import Derived.WalkSpells
import Derived.RowKit3
import Derived.Lib.Hide
import Derived.Laws.CopyOwn
import Derived.Laws.AppendOwnNone
import Derived.Laws.Rows
import Derived.Deep.AppendLies
import Derived.Deep.Draws
namespace Go.Proofs.Ytgpookphacdgoaa.W
open Go.RowKit

theorem blk_add (a : Addr) (n : Nat) : (a.add n).block = a.block := by unfold Addr.add; split <;> rfl
theorem add_two (a : Addr) (i j : Nat) : (a.add i).add j = a.add (i + j) := by
  unfold Addr.add
  by_cases hi : i = 0 <;> by_cases hj : j = 0 <;> simp [hi, hj, Nat.add_assoc]
theorem add_lit0 (g j : Nat) : (⟨g, 0, none⟩ : Addr).add j = ⟨g, j, none⟩ := by unfold Addr.add; split <;> simp_all

/-- From an address on lie these cells, in a block below B; where there are none the address is free. -/
def Lies (w : World) (B : Nat) (A : Option Addr) (vs : List Value) : Prop :=
  ∀ j u, vs[j]? = some u → ∃ ad, A = some ad ∧ ad.block < B ∧ w.cell? (ad.add j) = some u

theorem Lies.keep {w w' : World} {B : Nat} {A : Option Addr} {vs : List Value} (h : Lies w B A vs) (hk : ∀ b, b < B → w'.heap[b]? = w.heap[b]?) : Lies w' B A vs := by
  intro j u hu
  obtain ⟨ad, e, hb, hc⟩ := h j u hu
  exact ⟨ad, e, hb, by rw [World.cell?_of_block (w := w) (hk _ (by rw [blk_add]; exact hb))]; exact hc⟩
theorem Lies.below {w w' : World} {B B' : Nat} {A : Option Addr} {vs : List Value} (h : Lies w B A vs) (hb : Below B' w w') (hB : B ≤ B') : Lies w' B A vs :=
  h.keep fun b hlt => hb.block b (by omega)
theorem Lies.more {w : World} {B B' : Nat} {A : Option Addr} {vs : List Value} (h : Lies w B A vs) (hB : B ≤ B') : Lies w B' A vs := by
  intro j u hu
  obtain ⟨ad, e, hb, hc⟩ := h j u hu
  exact ⟨ad, e, by omega, hc⟩
theorem Lies.nil (w : World) (B : Nat) (A : Option Addr) : Lies w B A [] := by intro j u hu; simp at hu
theorem Lies.drop {w : World} {B : Nat} {A : Option Addr} {vs : List Value} (h : Lies w B A vs) (k : Nat) (A' : Option Addr) (hA : k < vs.length → A' = A.map (·.add k)) : Lies w B A' (vs.drop k) := by
  intro j u hu
  rw [List.getElem?_drop] at hu
  have hk : k < vs.length := by have := (List.getElem?_eq_some_iff.1 hu).1; omega
  obtain ⟨ad, e, hb, hc⟩ := h _ u hu
  subst e
  exact ⟨ad.add k, by rw [hA hk]; rfl, by rw [blk_add]; exact hb, by rw [add_two]; exact hc⟩
theorem Lies.take {w : World} {B : Nat} {A : Option Addr} {vs : List Value} (h : Lies w B A vs) (k : Nat) : Lies w B A (vs.take k) := by
  intro j u hu
  rw [List.getElem?_take] at hu
  split at hu
  · exact h j u hu
  · cases hu
theorem Lies.at_ {w : World} {B : Nat} {A : Option Addr} {vs : List Value} (h : Lies w B A vs) {k : Nat} (hk : k < vs.length) : ∃ ad, A = some ad ∧ ad.block < B ∧ w.cell? (ad.add k) = some vs[k] :=
  h k _ (List.getElem?_eq_getElem hk)
theorem Lies.some_ {w : World} {B : Nat} {A : Option Addr} {vs : List Value} (h : Lies w B A vs) (hk : 0 < vs.length) : ∃ ad, A = some ad ∧ ad.block < B ∧ ∀ j u, vs[j]? = some u → w.cell? (ad.add j) = some u := by
  obtain ⟨ad, e, hb, _⟩ := h.at_ hk
  refine ⟨ad, e, hb, fun j u hu => ?_⟩
  obtain ⟨ad', e', _, hc⟩ := h j u hu
  rw [e] at e'; injection e' with e'; subst e'; exact hc
theorem lies_one (w : World) (u : Value) (e : TypeId) : Lies (w.alloc (.cells #[u] e)) (w.alloc (.cells #[u] e)).heap.size (some ⟨w.heap.size, 0, none⟩) [u] := by
  intro j v hv
  refine ⟨_, rfl, by simp, ?_⟩
  rw [add_lit0, cell_of_row _ _ _ _ _ _ (heap_alloc_new w _)]
  simpa using hv
theorem lies_own {w : World} {base : Nat} {e : TypeId} {g n cap : Nat} {vs : List Value} (h : w.ownsRow base e 1 (.slice (some ⟨g, 0, none⟩) n cap) n vs) : Lies w w.heap.size (some ⟨g, 0, none⟩) vs := by
  intro j u hu
  refine ⟨_, rfl, ?_, h.cells (g := g) rfl j u hu⟩
  have hn : 0 < n := by have := (List.getElem?_eq_some_iff.1 hu).1; have := h.1; omega
  obtain ⟨g', cap', hv, _, hlt⟩ := h.form hn
  injection hv with hv; injection hv with hv; injection hv with hv; subst hv; exact hlt

theorem cell_lt {w : World} {a : Addr} {v : Value} (h : w.cell? a = some v) : a.block < w.heap.size := by
  rcases Nat.lt_or_ge a.block w.heap.size with k | k
  · exact k
  · rw [show w.cell? a = none by simp [World.cell?, Array.getElem?_eq_none k]] at h; cases h
theorem lies_ints {w : World} {k : IntKind} {x : Addr} {zs : List Int} (n : Nat) (h : ∀ i, i < zs.length → w.cell? (x.add i) = some (.int k (zs.getD i 0))) : Lies w w.heap.size (some x) ((zs.take n).map (Value.int k)) := by
  intro j u hu
  rw [List.getElem?_map, List.getElem?_take] at hu
  split at hu
  · have hj : j < zs.length := by
      rcases Nat.lt_or_ge j zs.length with q | q
      · exact q
      · rw [List.getElem?_eq_none q] at hu; cases hu
    have hc := h j hj
    have hb := cell_lt hc
    rw [blk_add] at hb
    refine ⟨x, rfl, hb, ?_⟩
    rw [hc, ← hu]; simp [hj]
  · cases hu
theorem lies_bools {w : World} {x : Addr} {len cap : Nat} {B : Nat → Bool} (hl : len ≤ cap) (h : ∀ i, i < cap → w.cell? (x.add i) = some (.bool (B i))) : Lies w w.heap.size (some x) (((List.range len).map B).map Value.bool) := by
  intro j u hu
  rw [List.getElem?_map, List.getElem?_map] at hu
  have hj : j < len := by
    rcases Nat.lt_or_ge j len with q | q
    · exact q
    · rw [List.getElem?_eq_none (by simpa using q)] at hu; cases hu
  have hc := h j (by omega)
  have hb := cell_lt hc
  rw [blk_add] at hb
  refine ⟨x, rfl, hb, ?_⟩
  rw [hc, ← hu]; simp [hj]
/-- Whole numbers that fit an unsigned kind, as natural numbers. -/
theorem nats_of {k : IntKind} {M : Nat} (hM : ∀ n : Int, (Lit.int k n).wf = true → 0 ≤ n ∧ n < M) : ∀ (xs : List Int), (∀ n ∈ xs, (Lit.int k n).wf = true) → ∃ ns : List Nat, xs = ns.map (fun n : Nat => (n : Int)) ∧ ∀ n ∈ ns, n < M
  | [], _ => ⟨[], rfl, by simp⟩
  | x :: t, h => by
    obtain ⟨ns, e, hn⟩ := nats_of hM t (fun n hn => h n (by simp [hn]))
    obtain ⟨h0, h1⟩ := hM x (h x (by simp))
    refine ⟨x.toNat :: ns, ?_, ?_⟩
    · rw [e, List.map_cons]; congr 1; omega
    · intro n hn'
      rcases List.mem_cons.1 hn' with q | q
      · omega
      · exact hn n q
theorem wf_u8 (n : Int) (h : (Lit.int .u8 n).wf = true) : 0 ≤ n ∧ n < (256 : Nat) := by
  simp [Lit.wf, IntKind.min, IntKind.max, IntKind.signed, IntKind.bits] at h
  omega
theorem wf_u64 (n : Int) (h : (Lit.int .u64 n).wf = true) : 0 ≤ n ∧ n < (18446744073709551616 : Nat) := by
  simp [Lit.wf, IntKind.min, IntKind.max, IntKind.signed, IntKind.bits] at h
  omega
theorem wf_i64 (n : Int) (h : (Lit.int .i64 n).wf = true) : -9223372036854775808 ≤ n ∧ n ≤ 9223372036854775807 := by
  simp [Lit.wf, IntKind.min, IntKind.max, IntKind.signed, IntKind.bits] at h
  omega

theorem grown_mono {a b c : World} {row : Option Nat} (h : a.grownBy b none) (k : b.grownBy c row) : a.grownBy c row :=
  ⟨k.os.trans h.os, k.tape.trans h.tape, k.output.trans h.output, Nat.le_trans h.size k.size, fun i hi hr => (k.block i (by have := h.size; omega) hr).trans (h.block i hi (by simp))⟩
theorem grown_none_any {a b : World} {row : Option Nat} (h : a.grownBy b none) : a.grownBy b row := ⟨h.os, h.tape, h.output, h.size, fun i hi _ => h.block i hi (by simp)⟩
theorem below_grown {a b : World} (h : Below a.heap.size a b) (row : Option Nat) : a.grownBy b row := ⟨h.os, h.tape, h.output, h.size, fun i hi _ => h.block i hi⟩
theorem grown_below {a b : World} (h : a.grownBy b none) : Below a.heap.size a b := ⟨h.os, h.tape, h.output, h.size, fun i hi => h.block i hi (by simp)⟩
theorem grown_trans {a b c : World} {row : Option Nat} (h : a.grownBy b row) (k : b.grownBy c row) : a.grownBy c row :=
  ⟨k.os.trans h.os, k.tape.trans h.tape, k.output.trans h.output, Nat.le_trans h.size k.size, fun i hi hr => (k.block i (by have := h.size; omega) hr).trans (h.block i hi hr)⟩
theorem below_drewN {B : Nat} {a w : World} (h : Below B a w) (n : Nat) : Below B a (w.drewN n) := ⟨h.os, h.tape, h.output, h.size, h.block⟩
theorem own_below {w w' : World} {base B : Nat} {e : TypeId} {size : Nat} {v : Value} {n : Nat} {xs : List Value} (h : w.ownsRow base e size v n xs) (hb : Below B w w') (hB : w.heap.size ≤ B) : w'.ownsRow base e size v n xs := by
  obtain ⟨h1, h2⟩ := h
  refine ⟨h1, ?_⟩
  rcases h2 with h2 | ⟨g, cap, cur, hv, hg, hh, r⟩
  · exact Or.inl h2
  · refine Or.inr ⟨g, cap, cur, hv, hg, ?_, r⟩
    have : g < w.heap.size := by
      rcases Nat.lt_or_ge g w.heap.size with k | k
      · exact k
      · rw [Array.getElem?_eq_none k] at hh; cases hh
    rw [hb.block g (by omega)]; exact hh

/-- make with a length and a capacity: the row whole. -/
theorem wpList_make_row {P : Program} {w : World} {ops : Array Oper} {rest : List Oper} {o : Oper} {a : Act} {Q : Exit → Act → World → Prop}
    (hg : o.guard = none) (l c : Operand) (t : TypeId) (hop : o.op = Op.makeSlice t l c)
    (e : TypeId) (i : TypeInfo) (z : Value) (h1 : P.underlying t = some (.slice e)) (h2 : P.info? e = some i) (h3 : i.zero = some z) (h4 : i.size = 1) (h5 : z.cells = #[z])
    (kl kc : IntKind) (L C : Int) (n m : Nat) (hl : a.eval l = .int kl L) (hc : a.eval c = .int kc C) (hL : L = (n : Int)) (hC : C = (m : Int)) (hnm : n ≤ m) (b2 : i.bytes * m ≤ 281474976710656) (b3 : m ≤ 140737488355328)
    (hK : ∀ w', Hid (w'.heap[w.heap.size]? = some (.cells (List.replicate m z).toArray e (0, 0))) → w.grownBy w' none → w'.heap.size = w.heap.size + 1 → wpList P ops Q rest (a.put o.dst (.slice (some ⟨w.heap.size, 0, none⟩) n m)) w') :
    wpList P ops Q (o :: rest) a w := by
  refine wpList_plain hg fun K hK' => ?_
  subst hL
  subst hC
  have hb' : (i.bytes : Int) * (m : Int) ≤ 281474976710656 := by
    have h : ((i.bytes * m : Nat) : Int) ≤ 281474976710656 := by omega
    rwa [Int.natCast_mul] at h
  have hr := run_make (P := P) w t e i z h1 h2 h3 kl kc n m (by omega) (by omega) hb' (by omega)
  simp only [Int.toNat_natCast] at hr
  unfold Oper.wp
  simp [execOp, hop, hl, hc, hr, Result.andThen]
  refine hK' _ _ (hK _ ?_ (World.grownBy_alloc w _ none) (by simp))
  show (w.alloc _).heap[w.heap.size]? = _
  rw [heap_alloc_new, h4, h5, Nat.mul_one]
  congr 2
  rw [← toList_madeCells_one]

theorem own_made {w2 : World} {B g k c : Nat} {cs : List Value} {z : Value} {e : TypeId} (hk : cs.length = k) (hc : k ≤ c) (hm : c ≤ 140737488355328)
    (HG : Hid (w2.heap[g]? = some (.cells (splice (List.replicate c z) 0 cs).toArray e (0, 0)))) (hB : B ≤ g) :
    w2.ownsRow B e 1 (.slice (some ⟨g, 0, none⟩) k c) k cs := by
  refine ⟨by omega, Or.inr ⟨_, c, _, rfl, hB, HG.out, hc, by simp only [maxLen]; omega, ?_, ?_⟩⟩
  · simp [splice]; omega
  · simp [splice, hk]

/-- copy into a row that was just made. -/
theorem wpList_copy_new {P : Program} {w : World} {ops : Array Oper} {rest : List Oper} {o : Oper} {a : Act} {Q : Exit → Act → World → Prop} (hgd : o.guard = none) (d s : Operand) (dT sT : TypeId)
    (ho : o.op = .call { callee := .builtin .copy, args := #[d, s], argTypes := #[dT, sT] }) (elem : TypeId) (hu : P.underlying dT = some (.slice elem)) (i : TypeInfo) (hi : P.info? elem = some i) (hz1 : i.size = 1)
    (g k c : Nat) (A : Option Addr) (sCap : Nat) (cs : List Value) (z : Value) (B B0 : Nat) (w0 : World) (hd : a.eval d = .slice (some ⟨g, 0, none⟩) k c) (hs : a.eval s = .slice A k sCap)
    (HG : Hid (w.heap[g]? = some (.cells (List.replicate c z).toArray elem (0, 0)))) (hk : cs.length = k) (hkc : k ≤ c) (hc : c ≤ 140737488355328) (hsrc : Lies w B A cs) (h1 : ∀ v ∈ cs, v.oneCell' = true)
    (hb : Below B0 w0 w) (hBg : B0 ≤ g)
    (h : ∀ w', w'.ownsRow B0 elem 1 (.slice (some ⟨g, 0, none⟩) k c) k cs → Below B0 w0 w' → g < w'.heap.size → wpList P ops Q rest (a.put o.dst (.int .i64 k)) w') : wpList P ops Q (o :: rest) a w := by
  refine wpList_copy_splice hgd d s dT sT ho elem hu (by rw [hi]; simp [hz1]) _ _ _ _ _ _ hd hs g 0 (List.replicate c z) elem HG.out cs (by rw [hk]; simp) ?_ (by simp; omega) h1 B0 w0 hb hBg ?_
  · intro hpos
    obtain ⟨ad, e, _, hc⟩ := hsrc.some_ hpos
    exact ⟨rfl, ad, e, hc⟩
  · intro w' HG' hb'
    have own := own_made hk hkc hc HG' hBg
    have hlt := (own.lt g rfl).2
    rw [hk]
    exact h w' own hb' hlt

/-- append of one: the row may move. -/
theorem wpList_app1 {P : Program} {w : World} {ops : Array Oper} {rest : List Oper} {o : Oper} {a : Act} {Q : Exit → Act → World → Prop} (hgd : o.guard = none) (s x : Operand) (t : TypeId)
    (ho : o.op = .call { callee := .builtin .append, args := #[s, x], argTypes := #[t, t] })
    (base : Nat) (e : TypeId) (i : TypeInfo) (z : Value) (bytes : Nat) (ht : P.underlying t = some (.slice e)) (hi : P.info? e = some i) (hz : i.zero = some z)
    (hsize : i.size = 1) (hby : i.bytes = bytes) (hzs : z.cells.size = 1)
    (v : Value) (n : Nat) (xs : List Value) (hs : a.eval s = v) (hown : w.ownsRow base e 1 v n xs) (u : Value) (e' : TypeId) (h1 : u.oneCell' = true)
    (H : Nat) (hx : a.eval x = .slice (some ⟨H, 0, none⟩) 1 1) (hH : H = w.heap.size) (h63 : n + 1 ≤ 140737488355328) (hbytes : (n + 1) * bytes ≤ 140737488355328) (hbase : base ≤ w.heap.size)
    (h : ∀ g cap w', w'.ownsRow base e 1 (.slice (some ⟨g, 0, none⟩) (n + 1) cap) (n + 1) (xs ++ [u]) → w.grownBy w' v.ownBlock → (v.ownBlock = some g ∨ w.heap.size ≤ g) → g < w'.heap.size →
      wpList P ops Q rest (a.put o.dst (.slice (some ⟨g, 0, none⟩) (n + 1) cap)) w') : wpList P ops Q (o :: rest) a (w.alloc (.cells #[u] e')) := by
  subst hH
  refine wpList_append_lies (w.alloc (.cells #[u] e')) hgd s x t ho base e i z 1 bytes ht hi hz hsize hby hzs (by omega) v n xs hs (hown.alloc _) ⟨w.heap.size, 0, none⟩ 1 1 [u] hx rfl ?_ (by simpa using h1) (by omega) (by simp only [maxLen]; omega) hbytes (by simp; omega) _ rfl ?_
  · intro j u' hu
    rw [add_lit0, cell_of_row _ _ _ _ _ _ (heap_alloc_new w _)]
    simpa using hu
  · intro g cap w' h2 h3 h4 h5
    refine h g cap w' h2 (grown_mono (World.grownBy_alloc w _ none) h3) ?_ h5
    rcases h4 with h4 | h4
    · exact Or.inl h4
    · refine Or.inr ?_
      simp at h4; omega

/-- append of the cells of a slice: nothing, or the row may move. -/
theorem wpList_appN {P : Program} {w : World} {ops : Array Oper} {rest : List Oper} {o : Oper} {a : Act} {Q : Exit → Act → World → Prop} (hgd : o.guard = none) (s x : Operand) (t : TypeId)
    (ho : o.op = .call { callee := .builtin .append, args := #[s, x], argTypes := #[t, t] })
    (base : Nat) (e : TypeId) (i : TypeInfo) (z : Value) (bytes : Nat) (ht : P.underlying t = some (.slice e)) (hi : P.info? e = some i) (hz : i.zero = some z)
    (hsize : i.size = 1) (hby : i.bytes = bytes) (hzs : z.cells.size = 1)
    (g0 n cap0 : Nat) (xs : List Value) (hs : a.eval s = .slice (some ⟨g0, 0, none⟩) n cap0) (hown : w.ownsRow base e 1 (.slice (some ⟨g0, 0, none⟩) n cap0) n xs) (A : Option Addr) (m c : Nat) (B : Nat) (news : List Value) (hx : a.eval x = .slice A m c) (hl : news.length = m)
    (hnews : Lies w B A news) (h1 : ∀ u ∈ news, u.oneCell' = true) (h63 : n + m ≤ 140737488355328) (hbytes : (n + m) * bytes ≤ 140737488355328) (hbase : base ≤ w.heap.size)
    (h : ∀ g cap w', w'.ownsRow base e 1 (.slice (some ⟨g, 0, none⟩) (n + m) cap) (n + m) (xs ++ news) → w.grownBy w' (some g0) → (g0 = g ∨ w.heap.size ≤ g) → g < w'.heap.size →
      wpList P ops Q rest (a.put o.dst (.slice (some ⟨g, 0, none⟩) (n + m) cap)) w') : wpList P ops Q (o :: rest) a w := by
  rcases Nat.eq_zero_or_pos m with hm | hm
  · subst hm
    obtain rfl : news = [] := List.eq_nil_of_length_eq_zero hl
    have hlt : g0 < w.heap.size := (hown.lt g0 rfl).2
    have hnc : n ≤ cap0 := by
      rcases hown.2 with ⟨hv, _⟩ | ⟨g, cap, cur, hv, _, _, hnc, _⟩
      · cases hv
      · injection hv with _ _ hv; subst hv; exact hnc
    cases A with
    | none =>
      refine wpList_plain hgd fun K hK => ?_
      have hrun : (Builtin.append_ #[t, t] o.type #[.slice (some ⟨g0, 0, none⟩) n cap0, .slice none 0 c]).run P w = .ok (.slice (some ⟨g0, 0, none⟩) n cap0) w := by
        simp [Builtin.append_, run_underlying ht, sizeOf, typeInfo, hi, Builtin.lenOf, Builtin.firstCells, hnc, storeCells]
      unfold Oper.wp
      simp [execOp, ho, resolve, invoke, builtin, hs, hx, hrun, Result.andThen]
      exact hK _ _ (h g0 cap0 w (by simpa using hown) (World.grownBy.refl _ _) (Or.inl rfl) hlt)
    | some ad =>
      refine wpList_append_fits w hgd s x t ho base e i 1 ht hi hsize g0 n cap0 xs hs hown ad 0 c [] hx rfl (by simp) (by simp) (by omega) ?_
      intro w' h2 h3
      exact h g0 cap0 w' h2 h3 (Or.inl rfl) (by have := h3.size; omega)
  · obtain ⟨ad, rfl, _, hc⟩ := hnews.some_ (by omega)
    refine wpList_append_lies w hgd s x t ho base e i z 1 bytes ht hi hz hsize hby hzs (by omega) _ n xs hs hown ad m c news hx (by omega) hc h1 hm (by simp only [maxLen]; omega) hbytes hbase _ rfl ?_
    intro g cap w' h2 h3 h4 h5
    refine h g cap w' h2 h3 ?_ h5
    rcases h4 with h4 | h4
    · simp [Value.ownBlock] at h4; exact Or.inl h4
    · exact Or.inr (by omega)
/-- A slice from a place on: the address under one name. -/
theorem wpList_from {P : Program} {w : World} {ops : Array Oper} {rest : List Oper} {o : Oper} {act : Act} {Q : Exit → Act → World → Prop} (hg : o.guard = none) (x l : Operand) (t : TypeId) (hop : o.op = Op.slice t x (some l) none none)
    (e : TypeId) (i : TypeInfo) (ht : P.underlying t = some (.slice e)) (hi : P.info? e = some i) (hs : i.size = 1) (A : Option Addr) (k c a : Nat) (kl : IntKind) (hx : act.eval x = .slice A k c) (hl : act.eval l = .int kl (a : Int)) (ha : a ≤ k) (hc : k ≤ c)
    (hK : ∀ A', Hid (A' = A.map (·.add a) ∨ k ≤ a) → wpList P ops Q rest (act.put o.dst (.slice A' (k - a) (c - a))) w) : wpList P ops Q (o :: rest) act w := by
  have he : P.elem t = e := by simp [Program.elem, ht]
  have ht' : P.underlying t = some (.slice (P.elem t)) := by rw [he]; exact ht
  have hr : (Instr.slice t (.slice A k c) (some (.int kl (a : Int))) none none).run P w = .ok (.slice (if c = a then A else A.map (·.add a)) (k - a) (c - a)) w := by
    rw [run_slice_l (P := P) w t A k c ht' kl (a : Int) (by omega) (by omega), he]
    simp [sizeOf, typeInfo, hi, hs, sliced, Result.andThen]
  refine wpList_plain hg fun K hK' => ?_
  unfold Oper.wp
  simp only [execOp, hop, Option.map_some, Option.map_none, hx, hl, run_sliceAt_slice (P := P) w t _ _ _ _ ht', hr, Sem.run_bind, Result.andThen, Sem.run_pure]
  refine hK' _ _ (hK _ ?_)
  show _ ∨ _
  by_cases q : c = a
  · exact Or.inr (by omega)
  · rw [if_neg q]; exact Or.inl rfl
theorem own_empty {w : World} {B : Nat} {e : TypeId} (hB : B ≤ w.heap.size) : (w.alloc (.cells #[] e)).ownsRow B e 1 (.slice (some ⟨w.heap.size, 0, none⟩) 0 0) 0 [] := 
  ⟨rfl, Or.inr ⟨_, 0, #[], rfl, hB, heap_alloc_new _ _, by omega, by decide, rfl, rfl⟩⟩
/-- A slice from a place on, the place under another form. -/
theorem wpList_from_to {P : Program} {w : World} {ops : Array Oper} {rest : List Oper} {o : Oper} {act : Act} {Q : Exit → Act → World → Prop} (hg : o.guard = none) (x l : Operand) (t : TypeId) (hop : o.op = Op.slice t x (some l) none none)
    (e : TypeId) (i : TypeInfo) (ht : P.underlying t = some (.slice e)) (hi : P.info? e = some i) (hs : i.size = 1) (A : Option Addr) (k c a : Nat) (kl : IntKind) (L : Int) (hx : act.eval x = .slice A k c) (hl : act.eval l = .int kl L) (hL : L = (a : Int)) (ha : a ≤ k) (hc : k ≤ c)
    (hK : ∀ A', Hid (A' = A.map (·.add a) ∨ k ≤ a) → wpList P ops Q rest (act.put o.dst (.slice A' (k - a) (c - a))) w) : wpList P ops Q (o :: rest) act w := by
  subst hL
  exact wpList_from hg x l t hop e i ht hi hs A k c a kl hx hl ha hc hK
end Go.Proofs.Ytgpookphacdgoaa.W
