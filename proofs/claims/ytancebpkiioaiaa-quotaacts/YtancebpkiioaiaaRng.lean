/- Going through a map whose keys are ints, in whatever order: words and laws, whatever the program. -/
import Derived.Test.YtancebpkiioaiaaItn
namespace Go.Proofs.Ytancebpkiioaiaa.W
open Go.RowKit Go.Maps Go.ChangeMaps Go.MapKept

/-- How many of the first n hold. -/
def cntB (f : Int → Bool) : Nat → Nat
  | 0 => 0
  | n + 1 => cntB f n + (if f (n : Int) then 1 else 0)
theorem cntB_zero {f : Int → Bool} : ∀ {n : Nat}, (∀ z : Nat, z < n → f (z : Int) = false) → cntB f n = 0
  | 0, _ => rfl
  | n + 1, h => by unfold cntB; rw [cntB_zero (n := n) (fun z q => h z (by omega)), h n (by omega)]; rfl
theorem cntB_ext {f g : Int → Bool} : ∀ {n : Nat}, (∀ z : Nat, z < n → f (z : Int) = g (z : Int)) → cntB f n = cntB g n
  | 0, _ => rfl
  | n + 1, h => by unfold cntB; rw [cntB_ext (n := n) (fun z q => h z (by omega)), h n (by omega)]
theorem cntB_take {f : Int → Bool} {x : Nat} (hx : f (x : Int) = true) : ∀ {n : Nat}, x < n → cntB (fun z => f z && !(z == (x : Int))) n + 1 = cntB f n
  | 0, h => by omega
  | n + 1, h => by
    unfold cntB
    by_cases e : x = n
    · subst e
      rw [cntB_ext (g := f) (n := x) (fun z q => by
        have : ((z : Int) == (x : Int)) = false := by simp; omega
        simp [this])]
      simp [hx]
    · have := cntB_take hx (n := n) (by omega)
      have e' : ((n : Int) == (x : Int)) = false := by simp; omega
      simp only [e', Bool.not_false, Bool.and_true]; omega
theorem cntB_put {f g : Int → Bool} {x : Nat} (hx : f (x : Int) = false) (hg : ∀ z, g z = (f z || z == (x : Int))) : ∀ {n : Nat}, x < n → cntB g n = cntB f n + 1
  | 0, h => by omega
  | n + 1, h => by
    unfold cntB
    by_cases e : x = n
    · subst e
      rw [cntB_ext (g := f) (n := x) (fun z q => by
        have : ((z : Int) == (x : Int)) = false := by simp; omega
        rw [hg]; simp [this]), hg, hx]
      simp
    · have := cntB_put hx hg (n := n) (by omega)
      have e' : ((n : Int) == (x : Int)) = false := by simp; omega
      rw [hg (n : Int), e', Bool.or_false]; omega

/-- Block b is such a map, block r goes through it: 'left' are still to come. -/
def Rg (P : Program) (t : TypeId) (w : World) (b r : Nat) (M : Int → Option Value) (c : Nat) (left : Int → Bool) : Prop :=
  ∃ D lf cnt n, w.ranges P t RV b r n D lf cnt ∧ Maps.size D = c ∧ (∀ x, (KL x).wf = true → Maps.has D (KL x) = (M x).isSome ∧ ∀ v, M x = some v → ∀ z, D.atKey (KL x) z = .held v) ∧ ∀ x, (KL x).wf = true → lf (KL x) = left x
theorem Rg.mp {P : Program} {t : TypeId} {w : World} {b r : Nat} {M : Int → Option Value} {c : Nat} {left : Int → Bool} (h : Rg P t w b r M c left) : Mp P t w b M c := by
  obtain ⟨D, lf, cnt, n, h1, h2, h3, _⟩ := h
  exact ⟨D, by rw [← h2]; exact tight h1.owns, h2, h3⟩
theorem Rg.kept {P : Program} {t : TypeId} {w w' : World} {b r : Nat} {M : Int → Option Value} {c : Nat} {left : Int → Bool} {S : Nat → Prop} (h : Rg P t w b r M c left) (ho : Only w w' S) (hb : ¬ S b) (hr : ¬ S r) : Rg P t w' b r M c left := by
  obtain ⟨D, lf, cnt, n, h1, h2, h3, h4⟩ := h
  have hlb := h1.owns.lt
  have hlr := h1.lt
  refine ⟨D, lf, cnt, n, ?_, h2, h3, h4⟩
  obtain ⟨es, clock, since, seen, c0, a1, a2, a3, a4, a5, a6⟩ := h1
  exact ⟨es, clock, since, seen, c0, by rw [ho.block b hlb hb]; exact a1, a2, a3, a4, by rw [ho.block r hlr hr]; exact a5, a6⟩
theorem Rg.ne {P : Program} {t : TypeId} {w : World} {b r : Nat} {M : Int → Option Value} {c : Nat} {left : Int → Bool} (h : Rg P t w b r M c left) : r ≠ b ∧ r < w.heap.size := by
  obtain ⟨D, lf, cnt, n, h1, _⟩ := h; exact ⟨h1.ne, h1.lt⟩

section
variable {P : Program} {w : World} {ops : Array Oper} {rest : List Oper} {o : Oper} {a : Act} {Q : Exit → Act → World → Prop}
theorem wpList_rng (hg : o.guard = none) (m : Operand) (t : TypeId) (hop : o.op = Op.range t m) (k e : TypeId) (hk : P.underlying k = some (.int .i64)) (ht : P.underlying t = some (.map k e)) (b : Nat) (M : Int → Option Value) (c : Nat) (hm : a.eval m = .map (some b)) (h : Mp P k w b M c)
    (hK : ∀ w', Rg P k w' b w.heap.size M c (fun x => (M x).isSome) → w.grownBy w' none → wpList P ops Q rest (a.put o.dst (.pointer (some ⟨w.heap.size, 0, none⟩))) w') : wpList P ops Q (o :: rest) a w := by
  obtain ⟨D, h1, h2, h3⟩ := h
  refine wpList_range_own w hg m t hop k e (int_keyed hk) ht RV b c D hm h1 ?_
  intro w' h4 h5 _
  exact hK w' ⟨D, _, _, c, h4, h2, h3, fun x hx => (h3 x hx).1⟩ h5
theorem wpList_nxt (hg : o.guard = none) (it : Operand) (hop : o.op = Op.next it false) (k : TypeId) (hk : P.underlying k = some (.int .i64)) (b r : Nat) (M : Int → Option Value) (c : Nat) (left : Int → Bool) (hit : a.eval it = .pointer (some ⟨r, 0, none⟩)) (h : Rg P k w b r M c left)
    (hDone : (∀ x, (KL x).wf = true → left x = false) → wpList P ops Q rest (a.put o.dst (.tuple #[.bool false])) w)
    (hMore : ∀ (x : Int) (v : Value) (w' : World), (KL x).wf = true → left x = true → M x = some v → Rg P k w' b r M c (fun z => left z && !(z == x)) → w.grownBy w' (some r) → (Instr.entry (.pointer (some ⟨r, 0, none⟩))).run P w' = .ok (.tuple #[.int .i64 x, v]) w' →
      wpList P ops Q rest (a.put o.dst (.tuple #[.bool true, .int .i64 x, v])) w') : wpList P ops Q (o :: rest) a w := by
  obtain ⟨D, lf, cnt, n, h1, h2, h3, h4⟩ := h
  refine wpList_next_ranges w hg it hop k (int_keyed hk) RV (Value.int .i64) (fun v : Value => v) (fun key kl hkey => by obtain ⟨x, rfl, _⟩ := Maps.keyOf_int_inv hk hkey; exact ⟨x, rfl⟩) (fun v _ _ => ⟨v, rfl⟩) b r n D lf cnt hit h1 ?_ ?_
  · intro _ hl
    exact hDone (fun x hx => by rw [← h4 x hx]; exact hl _)
  · intro x v kl y w' cnt' hkey hl hv hat h5 _ h6 _ h7
    obtain ⟨x', ex, rfl, hwx⟩ := Maps.keyOf_int_inv hk hkey
    cases ex
    unfold RV at hv
    cases hv
    have hhas := Maps.has_true_of_atKey hat
    obtain ⟨g1, g2⟩ := h3 x hwx
    rw [hhas] at g1
    obtain ⟨v0, hv0⟩ := Option.isSome_iff_exists.1 g1.symm
    have : v = v0 := by
      have := g2 v0 hv0 (.held v)
      rw [hat] at this
      cases this; rfl
    subst this
    refine hMore x v w' hwx (by rw [← h4 x hwx]; exact hl) hv0 ⟨D, _, cnt', n, h5, h2, h3, fun z hz => ?_⟩ h6 h7
    rw [h4 z hz]
    congr 1
    by_cases e : z = x
    · subst e; simp [Lit.sameKey]
    · have ne : KL z ≠ KL x := by intro q; apply e; injection q
      rw [Maps.sameKey_ne ne]; simp [e]
end
end Go.Proofs.Ytancebpkiioaiaa.W
