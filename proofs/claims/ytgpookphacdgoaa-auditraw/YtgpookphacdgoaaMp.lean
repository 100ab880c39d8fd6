/- Words for a map whose keys are ints, and laws in these words; and for what a call leaves alone: whatever the program. -/
import Derived.Test.YtgpookphacdgoaaBlk
import Derived.Test.YtgpookphacdgoaaHeapM
import Derived.Maps.OwnSet
import Derived.Maps.OwnOps
import Derived.Maps.RangeWalk
namespace Go.Proofs.Ytgpookphacdgoaa.W
open Go.RowKit Go.Maps Go.ChangeMaps Go.MapKept

/-- Nothing has turned but new blocks and those of S. -/
structure Only (w w' : World) (S : Nat → Prop) : Prop where
  os : w'.os = w.os
  tape : w'.tape = w.tape
  output : w'.output = w.output
  size : w.heap.size ≤ w'.heap.size
  block : ∀ k, k < w.heap.size → ¬ S k → w'.heap[k]? = w.heap[k]?
theorem Only.refl (w : World) (S : Nat → Prop) : Only w w S := ⟨rfl, rfl, rfl, Nat.le_refl _, fun _ _ _ => rfl⟩
theorem Only.trans {a b c : World} {S S' : Nat → Prop} (h : Only a b S) (k : Only b c S') (hs : ∀ j, S' j → S j ∨ a.heap.size ≤ j) : Only a c S :=
  ⟨k.os.trans h.os, k.tape.trans h.tape, k.output.trans h.output, Nat.le_trans h.size k.size, fun j hj hn => (k.block j (Nat.lt_of_lt_of_le hj h.size) (fun q => by rcases hs j q with q | q; exact hn q; omega)).trans (h.block j hj hn)⟩
theorem Only.tr {a b c : World} {S : Nat → Prop} (h : Only a b S) (k : Only b c S) : Only a c S := h.trans k (fun _ q => Or.inl q)
theorem Only.mono {a b : World} {S S' : Nat → Prop} (h : Only a b S) (hs : ∀ j, S j → S' j) : Only a b S' := ⟨h.os, h.tape, h.output, h.size, fun j hj hn => h.block j hj (fun q => hn (hs j q))⟩
theorem Only.grown {a b : World} {r : Nat} {S : Nat → Prop} (h : a.grownBy b (some r)) (hr : S r ∨ a.heap.size ≤ r) : Only a b S :=
  ⟨h.os, h.tape, h.output, h.size, fun j hj hn => h.block j hj (fun q => by cases q; rcases hr with q | q; exact hn q; omega)⟩
theorem Only.grownN {a b : World} {S : Nat → Prop} (h : a.grownBy b none) : Only a b S := ⟨h.os, h.tape, h.output, h.size, fun j hj _ => h.block j hj (by simp)⟩
theorem Only.below {B : Nat} {a b : World} {S : Nat → Prop} (h : Only a b S) (hs : ∀ j, S j → B ≤ j) (hB : B ≤ a.heap.size) : Below B a b := ⟨h.os, h.tape, h.output, h.size, fun j hj => h.block j (by omega) (fun q => by have := hs j q; omega)⟩
theorem Only.of_below {a b : World} {S : Nat → Prop} (h : Below a.heap.size a b) : Only a b S := ⟨h.os, h.tape, h.output, h.size, fun j hj _ => h.block j hj⟩
theorem Only.alloc {a b : World} {S : Nat → Prop} (h : Only a b S) (o : Obj) : Only a (b.alloc o) S := h.trans (Only.grownN (World.grownBy_alloc b o none)) (S' := S) (fun _ q => Or.inl q)
theorem Only.drewN {a b : World} {S : Nat → Prop} (h : Only a b S) (n : Nat) : Only a (b.drewN n) S := ⟨h.os, h.tape, h.output, h.size, h.block⟩
theorem Only.cell {a b : World} {S : Nat → Prop} (h : Only a b S) {x : Addr} {v : Value} (hx : ¬ S x.block) (hc : a.cell? x = some v) : b.cell? x = some v := by
  rw [World.cell?_of_block (h.block x.block (cell_lt hc) hx)]; exact hc
theorem Only.blk {a b : World} {S : Nat → Prop} (h : Only a b S) {x : Nat} {o : Obj} (hx : ¬ S x) (hc : a.heap[x]? = some o) : b.heap[x]? = some o := by
  rw [h.block x (lt_of_row hc) hx]; exact hc
theorem Only.lies {a b : World} {S : Nat → Prop} (h : Only a b S) {B : Nat} {A : Option Addr} {vs : List Value} (hl : Lies a B A vs) (hs : ∀ j, S j → B ≤ j) (hB : B ≤ a.heap.size) : Lies b B A vs :=
  hl.keep (fun j hj => h.block j (by omega) (fun q => by have := hs j q; omega))

def RV : Value → Option (DataW Value × List MemPlace) := fun v => some (.held v, [])
abbrev KL (x : Int) : Lit := .int .i64 x

/-- Block b is a map from ints, in which these keys have these values: c keys. -/
def Mp (P : Program) (t : TypeId) (w : World) (b : Nat) (M : Int → Option Value) (c : Nat) : Prop :=
  ∃ D, w.ownsMap P t RV b c D ∧ Maps.size D = c ∧ ∀ x, (KL x).wf = true → Maps.has D (KL x) = (M x).isSome ∧ ∀ v, M x = some v → ∀ z, D.atKey (KL x) z = .held v

theorem Mp.lt {P : Program} {t : TypeId} {w : World} {b : Nat} {M : Int → Option Value} {c : Nat} (h : Mp P t w b M c) : b < w.heap.size := by obtain ⟨D, h, _⟩ := h; exact h.lt
theorem Mp.kept {P : Program} {t : TypeId} {w w' : World} {b : Nat} {M : Int → Option Value} {c : Nat} {S : Nat → Prop} (h : Mp P t w b M c) (ho : Only w w' S) (hb : ¬ S b) : Mp P t w' b M c := by
  have hl := h.lt
  obtain ⟨D, ⟨es, clock, h1, h2, h3, h4⟩, h5, h6⟩ := h
  exact ⟨D, ⟨es, clock, by rw [ho.block b hl hb]; exact h1, h2, h3, h4⟩, h5, h6⟩
theorem Mp.made (P : Program) (t : TypeId) (w : World) : Mp P t (w.alloc (.map #[] 0)) w.heap.size (fun _ => none) 0 :=
  ⟨.map [], World.ownsMap_made w P t RV, rfl, fun x _ => ⟨rfl, fun v h => by cases h⟩⟩
theorem Mp.row {P : Program} {t : TypeId} {w : World} {b : Nat} {M : Int → Option Value} {c : Nat} (h : Mp P t w b M c) : ∃ es clock, w.heap[b]? = some (.map es clock) := by
  obtain ⟨D, ⟨es, clock, h, _⟩, _⟩ := h; exact ⟨es, clock, h⟩
theorem tight {P : Program} {t : TypeId} {w : World} {b n : Nat} {D : DataW Value} (h : w.ownsMap P t RV b n D) : w.ownsMap P t RV b (Maps.size D) D := by
  obtain ⟨es, clock, h1, h2, h3, rfl⟩ := h
  exact ⟨es, clock, h1, h2, by rw [Maps.size_eq, length_read]; exact Nat.le_refl _, rfl⟩
theorem Mp.ext {P : Program} {t : TypeId} {w : World} {b : Nat} {M M' : Int → Option Value} {c : Nat} (h : Mp P t w b M c) (e : ∀ x, (KL x).wf = true → M x = M' x) : Mp P t w b M' c := by
  obtain ⟨D, h1, h2, h3⟩ := h
  exact ⟨D, h1, h2, fun x hx => by rw [← e x hx]; exact h3 x hx⟩

section
variable {P : Program} {w : World} {ops : Array Oper} {rest : List Oper} {o : Oper} {a : Act} {Q : Exit → Act → World → Prop}

theorem wpList_mp_ok (hg : o.guard = none) (m x : Operand) (t : TypeId) (hop : o.op = Op.lookup t m x true) (k e : TypeId) (hk : P.underlying k = some (.int .i64)) (ht : P.underlying t = some (.map k e))
    {z : Value} (hz : (zeroValue e).run P w = .ok z w) (b : Nat) (M : Int → Option Value) (c : Nat) (hm : a.eval m = .map (some b)) (h : Mp P k w b M c) (n : Int) (hx : a.eval x = .int .i64 n) (hw : (KL n).wf = true)
    (r : Option Value) (hr : M n = r) (hK : wpList P ops Q rest (a.put o.dst (.tuple #[r.getD z, .bool r.isSome])) w) : wpList P ops Q (o :: rest) a w := by
  obtain ⟨D, h1, h2, h3⟩ := h
  refine wpList_lookup_own_ok w hg m x t hop k e (int_keyed hk) ht RV hz (.held z) [] rfl b c D hm h1 (.int .i64 n) (KL n) hx (keyOf_int_mk hk hw) ?_
  intro v ps hv
  obtain ⟨h4, h5⟩ := h3 n hw
  rw [h4, hr]
  have : v = r.getD z := by
    unfold RV at hv
    cases r with
    | none =>
      rw [hr] at h4
      rw [Maps.atKey_of_not_has h4] at hv
      simp at hv
      exact hv.1
    | some u =>
      rw [h5 u hr] at hv
      simp at hv
      exact hv.1
  rw [this]; exact hK
theorem wpList_mp_at (hg : o.guard = none) (m x : Operand) (t : TypeId) (hop : o.op = Op.lookup t m x false) (k e : TypeId) (hk : P.underlying k = some (.int .i64)) (ht : P.underlying t = some (.map k e))
    {z : Value} (hz : (zeroValue e).run P w = .ok z w) (b : Nat) (M : Int → Option Value) (c : Nat) (hm : a.eval m = .map (some b)) (h : Mp P k w b M c) (n : Int) (hx : a.eval x = .int .i64 n) (hw : (KL n).wf = true)
    (r : Option Value) (hr : M n = r) (hK : wpList P ops Q rest (a.put o.dst (r.getD z)) w) : wpList P ops Q (o :: rest) a w := by
  obtain ⟨D, h1, h2, h3⟩ := h
  refine wpList_plain hg fun K' hK' => ?_
  obtain ⟨v, ps, hrun, hv⟩ := h1.lookup (int_keyed hk) ht hz (zd := .held z) (zp := []) rfl (keyOf_int_mk hk hw)
  obtain ⟨h4, h5⟩ := h3 n hw
  have : v = r.getD z := by
    unfold RV at hv
    cases r with
    | none =>
      rw [hr] at h4
      rw [Maps.atKey_of_not_has h4] at hv
      simp at hv
      exact hv.1
    | some u =>
      rw [h5 u hr] at hv
      simp at hv
      exact hv.1
  unfold Oper.wp
  simp [execOp, hop, hm, hx, hrun, Result.andThen]
  rw [this]
  exact hK' _ _ hK
theorem wpList_mp_len (hg : o.guard = none) (m : Operand) (t : TypeId) (hop : o.op = Op.call { callee := Callee.builtin Builtin.len, args := #[m], argTypes := #[t] }) (k e : TypeId) (ht : P.underlying t = some (.map k e))
    (b : Nat) (M : Int → Option Value) (c : Nat) (hm : a.eval m = .map (some b)) (h : Mp P k w b M c) (hK : wpList P ops Q rest (a.put o.dst (.int .i64 (c : Int))) w) : wpList P ops Q (o :: rest) a w := by
  obtain ⟨D, h1, h2, h3⟩ := h
  refine wpList_len_own w hg m t hop k e ht RV b c D hm h1 ?_
  rw [h2]; exact hK
theorem wpList_mp_del (hg : o.guard = none) (m x : Operand) (t k : TypeId) (hop : o.op = Op.call { callee := Callee.builtin Builtin.delete, args := #[m, x], argTypes := #[t, k] }) (e : TypeId) (hk : P.underlying k = some (.int .i64)) (ht : P.underlying t = some (.map k e))
    (b : Nat) (M : Int → Option Value) (c : Nat) (hm : a.eval m = .map (some b)) (h : Mp P k w b M c) (n : Int) (hx : a.eval x = .int .i64 n) (hw : (KL n).wf = true)
    (c' : Nat) (hc : c' = if (M n).isSome then c - 1 else c) (hK : ∀ w', Mp P k w' b (updZ M n none) c' → w.grownBy w' (some b) → wpList P ops Q rest (a.put o.dst (.tuple #[])) w') : wpList P ops Q (o :: rest) a w := by
  obtain ⟨D, h1, h2, h3⟩ := h
  refine wpList_delete_own w hg m x t k hop e (int_keyed hk) ht RV b c D hm h1 (.int .i64 n) (KL n) hx (keyOf_int_mk hk hw) ?_
  intro w' h4 h5
  have hs := Maps.size_del (k := KL n) (h1.tidy (int_keyed hk))
  rw [(h3 n hw).1] at hs
  have hh : Maps.size (D.del (KL n)) = c' := by
    rw [hc]
    cases q : (M n).isSome <;> simp [q] at hs ⊢ <;> omega
  refine hK w' ⟨D.del (KL n), by rw [← hh]; exact tight h4, hh, ?_⟩ h5.grown
  intro x hx
  by_cases e : x = n
  · subst e; rw [updZ_same]; exact ⟨Maps.has_del_same, fun v h => by cases h⟩
  · have ne : KL x ≠ KL n := by intro q; apply e; injection q
    rw [updZ_ne _ _ e, Maps.has_del_other ne]
    exact ⟨(h3 x hx).1, fun v hv z => by rw [Maps.atKey_del_other ne]; exact (h3 x hx).2 v hv z⟩
theorem wpList_mp_set (hg : o.guard = none) (m x v : Operand) (t : TypeId) (hop : o.op = Op.mapUpdate t m x v) (k e : TypeId) (hk : P.underlying k = some (.int .i64)) (ht : P.underlying t = some (.map k e))
    (b : Nat) (M : Int → Option Value) (c : Nat) (hm : a.eval m = .map (some b)) (h : Mp P k w b M c) (hc0 : c < maxLen) (n : Int) (hx : a.eval x = .int .i64 n) (hw : (KL n).wf = true) (val : Value) (hv : a.eval v = val)
    (c' : Nat) (hc : c' = if (M n).isSome then c else c + 1) (hK : ∀ w', Mp P k w' b (updZ M n (some val)) c' → w.grownBy w' (some b) → wpList P ops Q rest (a.put o.dst undef) w') : wpList P ops Q (o :: rest) a w := by
  obtain ⟨D, h1, h2, h3⟩ := h
  refine wpList_mapUpdate_own w hg m x v t hop k e (int_keyed hk) ht RV b c D hm h1 hc0 (.int .i64 n) val (KL n) hx hv (keyOf_int_mk hk hw) (.held val) [] rfl ?_
  intro w' h4 h5
  have hs := Maps.size_put (k := KL n) (h1.tidy (int_keyed hk)) (.held val)
  rw [(h3 n hw).1] at hs
  have hh : Maps.size (D.put (KL n) (.held val)) = c' := by rw [hs, hc, h2]
  refine hK w' ⟨_, by rw [← hh]; exact tight h4, hh, ?_⟩ h5
  intro x hx
  have hkl : WideAt.IsKeyLit (KL n) := trivial
  by_cases e : x = n
  · subst e; rw [updZ_same]; exact ⟨Maps.has_put_same h1.isMap hkl _, fun v h z => by cases h; exact Maps.atKey_put_same h1.isMap hkl _ _⟩
  · have ne : KL x ≠ KL n := by intro q; apply e; injection q
    rw [updZ_ne _ _ e, Maps.has_put_other ne]
    exact ⟨(h3 x hx).1, fun v hv z => by rw [Maps.atKey_put_other ne]; exact (h3 x hx).2 v hv z⟩
theorem wpList_nilmap_ok (hg : o.guard = none) (m x : Operand) (t : TypeId) (hop : o.op = Op.lookup t m x true) (k e : TypeId) (hk : P.underlying k = some (.int .i64)) (ht : P.underlying t = some (.map k e))
    {z : Value} (hz : (zeroValue e).run P w = .ok z w) (hm : a.eval m = .map none) (n : Int) (hx : a.eval x = .int .i64 n) (hw : (KL n).wf = true)
    (hK : wpList P ops Q rest (a.put o.dst (.tuple #[z, .bool false])) w) : wpList P ops Q (o :: rest) a w := by
  refine wpList_plain hg fun K' hK' => ?_
  have := Maps.look_nil (w := w) true (int_keyed hk) ht hz (keyOf_int_mk hk hw)
  unfold Oper.wp
  simp at this
  simp [execOp, hop, hm, hx, this, Result.andThen]
  exact hK' _ _ hK
end
end Go.Proofs.Ytgpookphacdgoaa.W
