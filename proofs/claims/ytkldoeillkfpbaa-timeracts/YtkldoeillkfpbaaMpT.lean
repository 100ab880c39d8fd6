/- Words for a map whose keys are pairs of ints, and laws in these words: whatever the program (by mk_hpt0.py out of Mp.in, Itn.in, QuoN.in, QuoR.in). -/
import Derived.Test.YtkldoeillkfpbaaItn
import Derived.Test.YtkldoeillkfpbaaKeyT
namespace Go.Proofs.Ytkldoeillkfpbaa.W.HT
open Go.RowKit Go.Maps Go.ChangeMaps Go.MapKept

/-- Block b is a map from ints, in which these keys have these values: c keys. -/
def Mp (P : Program) (t : TypeId) (w : World) (b : Nat) (M : K → Option Value) (c : Nat) : Prop :=
  ∃ D, w.ownsMap P t RV b c D ∧ Maps.size D = c ∧ ∀ x, kw x → Maps.has D (KS x) = (M x).isSome ∧ ∀ v, M x = some v → ∀ z, D.atKey (KS x) z = .held v

theorem Mp.lt {P : Program} {t : TypeId} {w : World} {b : Nat} {M : K → Option Value} {c : Nat} (h : Mp P t w b M c) : b < w.heap.size := by obtain ⟨D, h, _⟩ := h; exact h.lt
theorem Mp.kept {P : Program} {t : TypeId} {w w' : World} {b : Nat} {M : K → Option Value} {c : Nat} {S : Nat → Prop} (h : Mp P t w b M c) (ho : Only w w' S) (hb : ¬ S b) : Mp P t w' b M c := by
  have hl := h.lt
  obtain ⟨D, ⟨es, clock, h1, h2, h3, h4⟩, h5, h6⟩ := h
  exact ⟨D, ⟨es, clock, by rw [ho.block b hl hb]; exact h1, h2, h3, h4⟩, h5, h6⟩
theorem Mp.made (P : Program) (t : TypeId) (w : World) : Mp P t (w.alloc (.map #[] 0)) w.heap.size (fun _ => none) 0 :=
  ⟨.map [], World.ownsMap_made w P t RV, rfl, fun x _ => ⟨rfl, fun v h => by cases h⟩⟩
theorem Mp.row {P : Program} {t : TypeId} {w : World} {b : Nat} {M : K → Option Value} {c : Nat} (h : Mp P t w b M c) : ∃ es clock, w.heap[b]? = some (.map es clock) := by
  obtain ⟨D, ⟨es, clock, h, _⟩, _⟩ := h; exact ⟨es, clock, h⟩
theorem Mp.ext {P : Program} {t : TypeId} {w : World} {b : Nat} {M M' : K → Option Value} {c : Nat} (h : Mp P t w b M c) (e : ∀ x, kw x → M x = M' x) : Mp P t w b M' c := by
  obtain ⟨D, h1, h2, h3⟩ := h
  exact ⟨D, h1, h2, fun x hx => by rw [← e x hx]; exact h3 x hx⟩

section
variable {P : Program} {w : World} {ops : Array Oper} {rest : List Oper} {o : Oper} {a : Act} {Q : Exit → Act → World → Prop}

theorem wpList_mp_ok (hg : o.guard = none) (m x : Operand) (t : TypeId) (hop : o.op = Op.lookup t m x true) (k e : TypeId) (hk : Kd P k) (ht : P.underlying t = some (.map k e))
    {z : Value} (hz : (zeroValue e).run P w = .ok z w) (b : Nat) (M : K → Option Value) (c : Nat) (hm : a.eval m = .map (some b)) (h : Mp P k w b M c) (n : K) (hx : a.eval x = kv n) (hw : kw n)
    (r : Option Value) (hr : M n = r) (hK : wpList P ops Q rest (a.put o.dst (.tuple #[r.getD z, .bool r.isSome])) w) : wpList P ops Q (o :: rest) a w := by
  obtain ⟨D, h1, h2, h3⟩ := h
  refine wpList_lookup_own_ok w hg m x t hop k e (hk.keyed) ht RV hz (.held z) [] rfl b c D hm h1 (kv n) (KS n) hx (hk.made n hw) ?_
  intro v ps hv
  obtain ⟨h4, h5⟩ := h3 n hw
  rw [h4, hr]
  have : v = r.getD z := by
    unfold RV at hv
    cases r with
    | none =>
      rw [hr] at h4
      rw [Maps.atKey_of_not_has h4] at hv
      simp at hv
      exact hv.1
    | some u =>
      rw [h5 u hr] at hv
      simp at hv
      exact hv.1
  rw [this]; exact hK
theorem wpList_mp_at (hg : o.guard = none) (m x : Operand) (t : TypeId) (hop : o.op = Op.lookup t m x false) (k e : TypeId) (hk : Kd P k) (ht : P.underlying t = some (.map k e))
    {z : Value} (hz : (zeroValue e).run P w = .ok z w) (b : Nat) (M : K → Option Value) (c : Nat) (hm : a.eval m = .map (some b)) (h : Mp P k w b M c) (n : K) (hx : a.eval x = kv n) (hw : kw n)
    (r : Option Value) (hr : M n = r) (hK : wpList P ops Q rest (a.put o.dst (r.getD z)) w) : wpList P ops Q (o :: rest) a w := by
  obtain ⟨D, h1, h2, h3⟩ := h
  refine wpList_plain hg fun K' hK' => ?_
  obtain ⟨v, ps, hrun, hv⟩ := h1.lookup (hk.keyed) ht hz (zd := .held z) (zp := []) rfl (hk.made n hw)
  obtain ⟨h4, h5⟩ := h3 n hw
  have : v = r.getD z := by
    unfold RV at hv
    cases r with
    | none =>
      rw [hr] at h4
      rw [Maps.atKey_of_not_has h4] at hv
      simp at hv
      exact hv.1
    | some u =>
      rw [h5 u hr] at hv
      simp at hv
      exact hv.1
  unfold Oper.wp
  simp [execOp, hop, hm, hx, hrun, Result.andThen]
  rw [this]
  exact hK' _ _ hK
theorem wpList_mp_len (hg : o.guard = none) (m : Operand) (t : TypeId) (hop : o.op = Op.call { callee := Callee.builtin Builtin.len, args := #[m], argTypes := #[t] }) (k e : TypeId) (ht : P.underlying t = some (.map k e))
    (b : Nat) (M : K → Option Value) (c : Nat) (hm : a.eval m = .map (some b)) (h : Mp P k w b M c) (hK : wpList P ops Q rest (a.put o.dst (.int .i64 (c : Int))) w) : wpList P ops Q (o :: rest) a w := by
  obtain ⟨D, h1, h2, h3⟩ := h
  refine wpList_len_own w hg m t hop k e ht RV b c D hm h1 ?_
  rw [h2]; exact hK
theorem wpList_mp_del (hg : o.guard = none) (m x : Operand) (t k : TypeId) (hop : o.op = Op.call { callee := Callee.builtin Builtin.delete, args := #[m, x], argTypes := #[t, k] }) (e : TypeId) (hk : Kd P k) (ht : P.underlying t = some (.map k e))
    (b : Nat) (M : K → Option Value) (c : Nat) (hm : a.eval m = .map (some b)) (h : Mp P k w b M c) (n : K) (hx : a.eval x = kv n) (hw : kw n)
    (c' : Nat) (hc : c' = if (M n).isSome then c - 1 else c) (hK : ∀ w', Mp P k w' b (updZ M n none) c' → w.grownBy w' (some b) → wpList P ops Q rest (a.put o.dst (.tuple #[])) w') : wpList P ops Q (o :: rest) a w := by
  obtain ⟨D, h1, h2, h3⟩ := h
  refine wpList_delete_own w hg m x t k hop e (hk.keyed) ht RV b c D hm h1 (kv n) (KS n) hx (hk.made n hw) ?_
  intro w' h4 h5
  have hs := Maps.size_del (k := KS n) (h1.tidy (hk.keyed))
  rw [(h3 n hw).1] at hs
  have hh : Maps.size (D.del (KS n)) = c' := by
    rw [hc]
    cases q : (M n).isSome <;> simp [q] at hs ⊢ <;> omega
  refine hK w' ⟨D.del (KS n), by rw [← hh]; exact tight h4, hh, ?_⟩ h5.grown
  intro x hx
  by_cases e : x = n
  · subst e; rw [updZ_same]; exact ⟨Maps.has_del_same, fun v h => by cases h⟩
  · have ne : KS x ≠ KS n := fun q => e (hk.inj hx hw q)
    rw [updZ_ne _ _ e, Maps.has_del_other ne]
    exact ⟨(h3 x hx).1, fun v hv z => by rw [Maps.atKey_del_other ne]; exact (h3 x hx).2 v hv z⟩
theorem wpList_mp_set (hg : o.guard = none) (m x v : Operand) (t : TypeId) (hop : o.op = Op.mapUpdate t m x v) (k e : TypeId) (hk : Kd P k) (ht : P.underlying t = some (.map k e))
    (b : Nat) (M : K → Option Value) (c : Nat) (hm : a.eval m = .map (some b)) (h : Mp P k w b M c) (hc0 : c < maxLen) (n : K) (hx : a.eval x = kv n) (hw : kw n) (val : Value) (hv : a.eval v = val)
    (c' : Nat) (hc : c' = if (M n).isSome then c else c + 1) (hK : ∀ w', Mp P k w' b (updZ M n (some val)) c' → w.grownBy w' (some b) → wpList P ops Q rest (a.put o.dst undef) w') : wpList P ops Q (o :: rest) a w := by
  obtain ⟨D, h1, h2, h3⟩ := h
  refine wpList_mapUpdate_own w hg m x v t hop k e (hk.keyed) ht RV b c D hm h1 hc0 (kv n) val (KS n) hx hv (hk.made n hw) (.held val) [] rfl ?_
  intro w' h4 h5
  have hs := Maps.size_put (k := KS n) (h1.tidy (hk.keyed)) (.held val)
  rw [(h3 n hw).1] at hs
  have hh : Maps.size (D.put (KS n) (.held val)) = c' := by rw [hs, hc, h2]
  refine hK w' ⟨_, by rw [← hh]; exact tight h4, hh, ?_⟩ h5
  intro x hx
  have hkl : WideAt.IsKeyLit (KS n) := trivial
  by_cases e : x = n
  · subst e; rw [updZ_same]; exact ⟨Maps.has_put_same h1.isMap hkl _, fun v h z => by cases h; exact Maps.atKey_put_same h1.isMap hkl _ _⟩
  · have ne : KS x ≠ KS n := fun q => e (hk.inj hx hw q)
    rw [updZ_ne _ _ e, Maps.has_put_other ne]
    exact ⟨(h3 x hx).1, fun v hv z => by rw [Maps.atKey_put_other ne]; exact (h3 x hx).2 v hv z⟩
theorem wpList_nilmap_ok (hg : o.guard = none) (m x : Operand) (t : TypeId) (hop : o.op = Op.lookup t m x true) (k e : TypeId) (hk : Kd P k) (ht : P.underlying t = some (.map k e))
    {z : Value} (hz : (zeroValue e).run P w = .ok z w) (hm : a.eval m = .map none) (n : K) (hx : a.eval x = kv n) (hw : kw n)
    (hK : wpList P ops Q rest (a.put o.dst (.tuple #[z, .bool false])) w) : wpList P ops Q (o :: rest) a w := by
  refine wpList_plain hg fun K' hK' => ?_
  have := Maps.look_nil (w := w) true (hk.keyed) ht hz (hk.made n hw)
  unfold Oper.wp
  simp at this
  simp [execOp, hop, hm, hx, this, Result.andThen]
  exact hK' _ _ hK
end
theorem Mp.run_at {P : Program} {w : World} {b : Nat} {M : K → Option Value} {c : Nat} {k e t : TypeId} (h : Mp P k w b M c) (hk : Kd P k) (ht : P.underlying t = some (.map k e)) {z : Value} (hz : (zeroValue e).run P w = .ok z w) {n : K} (hw : kw n) :
    (Instr.lookup t (.map (some b)) (kv n) false).run P w = .ok ((M n).getD z) w := by
  obtain ⟨D, h1, h2, h3⟩ := h
  obtain ⟨v, ps, hrun, hv⟩ := h1.lookup (hk.keyed) ht hz (zd := .held z) (zp := []) rfl (hk.made n hw)
  obtain ⟨h4, h5⟩ := h3 n hw
  have : v = (M n).getD z := by
    unfold RV at hv
    cases hr : M n with
    | none =>
      rw [hr] at h4
      rw [Maps.atKey_of_not_has h4] at hv
      simp at hv
      exact hv.1
    | some u =>
      rw [h5 u hr] at hv
      simp at hv
      exact hv.1
  rw [← this]; exact hrun

theorem Mp.run_ok {P : Program} {w : World} {b : Nat} {M : K → Option Value} {c : Nat} {k e t : TypeId} (h : Mp P k w b M c) (hk : Kd P k) (ht : P.underlying t = some (.map k e)) {z : Value} (hz : (zeroValue e).run P w = .ok z w) {n : K} (hw : kw n) :
    (Instr.lookup t (.map (some b)) (kv n) true).run P w = .ok (.tuple #[(M n).getD z, .bool (M n).isSome]) w := by
  obtain ⟨D, h1, h2, h3⟩ := h
  obtain ⟨es, clock, hb, F, hn, hD⟩ := h1
  obtain ⟨h4, h5⟩ := h3 n hw
  rcases Maps.fit_look true (hk.keyed) ht hz hb F (hk.made n hw) with ⟨hrun, _, hat⟩ | ⟨e0, y, _, _, hrun, hRv, hat, _⟩
  · cases hr : M n with
    | none => simpa using hrun
    | some v =>
      have := h5 v hr (.lit (.bool true))
      rw [hD, hat] at this
      cases this
  · have hy : y.1 = .held e0.val := by unfold RV at hRv; cases hRv; rfl
    cases hr : M n with
    | none =>
      rw [hr] at h4
      have := Maps.atKey_of_not_has h4 (z := (.lit (.bool true) : DataW Value))
      rw [hD, hat, hy] at this
      cases this
    | some v =>
      have := h5 v hr (.lit (.bool true))
      rw [hD, hat, hy] at this
      cases this
      simpa using hrun

section
variable {P : Program} {w : World} {ops : Array Oper} {rest : List Oper} {o : Oper} {a : Act} {Q : Exit → Act → World → Prop}
theorem wpList_mp_some (hg : o.guard = none) (m x : Operand) (t : TypeId) (hop : o.op = Op.lookup t m x true) (k e : TypeId) (hk : Kd P k) (ht : P.underlying t = some (.map k e))
    {z : Value} (hz : (zeroValue e).run P w = .ok z w) (b : Nat) (M : K → Option Value) (c : Nat) (hm : a.eval m = .map (some b)) (h : Mp P k w b M c) (n : K) (hx : a.eval x = kv n) (hw : kw n)
    (v : Value) (hr : M n = some v) (hK : wpList P ops Q rest (a.put o.dst (.tuple #[v, .bool true])) w) : wpList P ops Q (o :: rest) a w :=
  wpList_mp_ok hg m x t hop k e hk ht hz b M c hm h n hx hw (some v) hr hK
theorem wpList_mp_none (hg : o.guard = none) (m x : Operand) (t : TypeId) (hop : o.op = Op.lookup t m x true) (k e : TypeId) (hk : Kd P k) (ht : P.underlying t = some (.map k e))
    {z : Value} (hz : (zeroValue e).run P w = .ok z w) (b : Nat) (M : K → Option Value) (c : Nat) (hm : a.eval m = .map (some b)) (h : Mp P k w b M c) (n : K) (hx : a.eval x = kv n) (hw : kw n)
    (hr : M n = none) (hK : wpList P ops Q rest (a.put o.dst (.tuple #[z, .bool false])) w) : wpList P ops Q (o :: rest) a w :=
  wpList_mp_ok hg m x t hop k e hk ht hz b M c hm h n hx hw none hr hK
end
end Go.Proofs.Ytkldoeillkfpbaa.W.HT
