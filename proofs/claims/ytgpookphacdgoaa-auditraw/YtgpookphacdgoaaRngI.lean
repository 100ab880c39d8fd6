/- Going through a map whose keys are ints, with the count of what is still to come: words and laws, whatever the program. -/
import Derived.Test.YtgpookphacdgoaaItn
namespace Go.Proofs.Ytgpookphacdgoaa.W
open Go.RowKit Go.Maps Go.ChangeMaps Go.MapKept

/-- Block b is such a map, block r goes through it: 'left' are still to come, at most cnt rounds. -/
def Ri (P : Program) (t : TypeId) (w : World) (b r : Nat) (M : Int → Option Value) (c : Nat) (left : Int → Bool) (cnt : Nat) : Prop :=
  ∃ D lf n, w.ranges P t RV b r n D lf cnt ∧ Maps.size D = c ∧ (∀ x, (KL x).wf = true → Maps.has D (KL x) = (M x).isSome ∧ ∀ v, M x = some v → ∀ z, D.atKey (KL x) z = .held v) ∧ ∀ x, (KL x).wf = true → lf (KL x) = left x
theorem Ri.mp {P : Program} {t : TypeId} {w : World} {b r : Nat} {M : Int → Option Value} {c : Nat} {left : Int → Bool} {cnt : Nat} (h : Ri P t w b r M c left cnt) : Mp P t w b M c := by
  obtain ⟨D, lf, n, h1, h2, h3, _⟩ := h
  exact ⟨D, by rw [← h2]; exact tight h1.owns, h2, h3⟩
theorem Ri.kept {P : Program} {t : TypeId} {w w' : World} {b r : Nat} {M : Int → Option Value} {c : Nat} {left : Int → Bool} {cnt : Nat} {S : Nat → Prop} (h : Ri P t w b r M c left cnt) (ho : Only w w' S) (hb : ¬ S b) (hr : ¬ S r) : Ri P t w' b r M c left cnt := by
  obtain ⟨D, lf, n, h1, h2, h3, h4⟩ := h
  have hlb := h1.owns.lt
  have hlr := h1.lt
  refine ⟨D, lf, n, ?_, h2, h3, h4⟩
  obtain ⟨es, clock, since, seen, c0, a1, a2, a3, a4, a5, a6⟩ := h1
  exact ⟨es, clock, since, seen, c0, by rw [ho.block b hlb hb]; exact a1, a2, a3, a4, by rw [ho.block r hlr hr]; exact a5, a6⟩
theorem Ri.ne {P : Program} {t : TypeId} {w : World} {b r : Nat} {M : Int → Option Value} {c : Nat} {left : Int → Bool} {cnt : Nat} (h : Ri P t w b r M c left cnt) : r ≠ b ∧ r < w.heap.size := by
  obtain ⟨D, lf, n, h1, _⟩ := h; exact ⟨h1.ne, h1.lt⟩

section
variable {P : Program} {w : World} {ops : Array Oper} {rest : List Oper} {o : Oper} {a : Act} {Q : Exit → Act → World → Prop}
theorem wpList_rngi (hg : o.guard = none) (m : Operand) (t : TypeId) (hop : o.op = Op.range t m) (k e : TypeId) (hk : P.underlying k = some (.int .i64)) (ht : P.underlying t = some (.map k e)) (b : Nat) (M : Int → Option Value) (c : Nat) (hm : a.eval m = .map (some b)) (h : Mp P k w b M c)
    (hK : ∀ w', Ri P k w' b w.heap.size M c (fun x => (M x).isSome) c → w.grownBy w' none → wpList P ops Q rest (a.put o.dst (.pointer (some ⟨w.heap.size, 0, none⟩))) w') : wpList P ops Q (o :: rest) a w := by
  obtain ⟨D, h1, h2, h3⟩ := h
  refine wpList_range_own w hg m t hop k e (int_keyed hk) ht RV b c D hm h1 ?_
  intro w' h4 h5 _
  exact hK w' ⟨D, _, c, by rw [← h2]; rw [← h2] at h4; exact h4, h2, h3, fun x hx => (h3 x hx).1⟩ h5
theorem wpList_nxti (hg : o.guard = none) (it : Operand) (hop : o.op = Op.next it false) (k : TypeId) (hk : P.underlying k = some (.int .i64)) (b r : Nat) (M : Int → Option Value) (c : Nat) (left : Int → Bool) (cnt : Nat) (hit : a.eval it = .pointer (some ⟨r, 0, none⟩)) (h : Ri P k w b r M c left cnt)
    (hDone : (∀ x, (KL x).wf = true → left x = false) → wpList P ops Q rest (a.put o.dst (.tuple #[.bool false])) w)
    (hMore : ∀ (x : Int) (v : Value) (w' : World) (cnt' : Nat), cnt' < cnt → (KL x).wf = true → left x = true → M x = some v → Ri P k w' b r M c (fun z => left z && !(z == x)) cnt' → w.grownBy w' (some r) → (Instr.entry (.pointer (some ⟨r, 0, none⟩))).run P w' = .ok (.tuple #[.int .i64 x, v]) w' →
      wpList P ops Q rest (a.put o.dst (.tuple #[.bool true, .int .i64 x, v])) w') : wpList P ops Q (o :: rest) a w := by
  obtain ⟨D, lf, n, h1, h2, h3, h4⟩ := h
  refine wpList_next_ranges w hg it hop k (int_keyed hk) RV (Value.int .i64) (fun v : Value => v) (fun key kl hkey => by obtain ⟨x, rfl, _⟩ := Maps.keyOf_int_inv hk hkey; exact ⟨x, rfl⟩) (fun v _ _ => ⟨v, rfl⟩) b r n D lf cnt hit h1 ?_ ?_
  · intro _ hl
    exact hDone (fun x hx => by rw [← h4 x hx]; exact hl _)
  · intro x v kl y w' cnt' hkey hl hv hat h5 hlt h6 _ h7
    obtain ⟨x', ex, rfl, hwx⟩ := Maps.keyOf_int_inv hk hkey
    cases ex
    unfold RV at hv
    cases hv
    have hhas := Maps.has_true_of_atKey hat
    obtain ⟨g1, g2⟩ := h3 x hwx
    rw [hhas] at g1
    obtain ⟨v0, hv0⟩ := Option.isSome_iff_exists.1 g1.symm
    have : v = v0 := by
      have := g2 v0 hv0 (.held v)
      rw [hat] at this
      cases this; rfl
    subst this
    refine hMore x v w' cnt' hlt hwx (by rw [← h4 x hwx]; exact hl) hv0 ⟨D, _, n, h5, h2, h3, fun z hz => ?_⟩ h6 h7
    rw [h4 z hz]
    congr 1
    by_cases e : z = x
    · subst e; simp [Lit.sameKey]
    · have ne : KL z ≠ KL x := by intro q; apply e; injection q
      rw [Maps.sameKey_ne ne]; simp [e]
end
end Go.Proofs.Ytgpookphacdgoaa.W
