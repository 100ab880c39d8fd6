/- Package audit: facts of what lies in memory, and what is new there. -/
import Derived.Test.YtgpookphacdgoaaAuA
import Derived.BigQuiet
import Derived.StillTailTactics
namespace Go.Proofs.Ytgpookphacdgoaa.W.U
open Go.RowKit Go.Maps Go.ChangeMaps Go.MapKept Go.Proofs.Ytgpookphacdgoaa.W

section
variable {w w' : World} {own : Nat → Option Tag} {y : Lay} {s : Vs}
theorem Cor.v0 (h : Cor w own y s) : w.cell? ⟨y.v, 0, none⟩ = some (.int .i64 s.last) := cellL (h.ob .vw).2 0 _ rfl
theorem Cor.v1 (h : Cor w own y s) : w.cell? ⟨y.v, 1, none⟩ = some (.map (some y.mf)) := cellL (h.ob .vw).2 1 _ rfl
theorem Cor.v2 (h : Cor w own y s) : w.cell? ⟨y.v, 2, none⟩ = some (.map (some y.mh)) := cellL (h.ob .vw).2 2 _ rfl
theorem Cor.v3 (h : Cor w own y s) : w.cell? ⟨y.v, 3, none⟩ = some (.map (some y.mx)) := cellL (h.ob .vw).2 3 _ rfl
theorem Cor.f0 (h : Cor w own y s) {f : Int} {g : Fv} (e : s.fu.a f = some g) : w.cell? ⟨y.fb f, 0, none⟩ = some (.int .i64 g.mem) := cellL ((h.ob (.fb f)) g e).2 0 _ rfl
theorem Cor.f1 (h : Cor w own y s) {f : Int} {g : Fv} (e : s.fu.a f = some g) : w.cell? ⟨y.fb f, 1, none⟩ = some (.map (some (y.fo f))) := cellL ((h.ob (.fb f)) g e).2 1 _ rfl
theorem Cor.h0 (h : Cor w own y s) {x : Int} {p : Hv} (e : s.ho.a x = some p) : w.cell? ⟨y.hb x, 0, none⟩ = some (.int .i64 p.size) := cellL ((h.ob (.hb x)) p e).2 0 _ rfl
theorem Cor.h1 (h : Cor w own y s) {x : Int} {p : Hv} (e : s.ho.a x = some p) : w.cell? ⟨y.hb x, 1, none⟩ = some (.int .i64 p.used) := cellL ((h.ob (.hb x)) p e).2 1 _ rfl
theorem Cor.h2 (h : Cor w own y s) {x : Int} {p : Hv} (e : s.ho.a x = some p) : w.cell? ⟨y.hb x, 2, none⟩ = some (.map (some (y.hm x))) := cellL ((h.ob (.hb x)) p e).2 2 _ rfl
theorem Cor.b0 (h : Cor w own y s) {i : Int} {b : Bv} (e : s.bx i = some b) : w.cell? ⟨y.bx i, 0, none⟩ = some (.int .i64 b.id) := cellL ((h.ob (.bx i)) b e).2 0 _ rfl
theorem Cor.b1 (h : Cor w own y s) {i : Int} {b : Bv} (e : s.bx i = some b) : w.cell? ⟨y.bx i, 1, none⟩ = some (.int .i64 b.fn) := cellL ((h.ob (.bx i)) b e).2 1 _ rfl
theorem Cor.b2 (h : Cor w own y s) {i : Int} {b : Bv} (e : s.bx i = some b) : w.cell? ⟨y.bx i, 2, none⟩ = some (.int .i64 b.ho) := cellL ((h.ob (.bx i)) b e).2 2 _ rfl
theorem Cor.b3 (h : Cor w own y s) {i : Int} {b : Bv} (e : s.bx i = some b) : w.cell? ⟨y.bx i, 3, none⟩ = some (.bool b.boots) := cellL ((h.ob (.bx i)) b e).2 3 _ rfl
theorem Cor.b4 (h : Cor w own y s) {i : Int} {b : Bv} (e : s.bx i = some b) : w.cell? ⟨y.bx i, 4, none⟩ = some (.bool b.busy) := cellL ((h.ob (.bx i)) b e).2 4 _ rfl
end

theorem mp_run_at {P : Program} {w : World} {b : Nat} {M : Int → Option Value} {c : Nat} {k e t : TypeId} (h : Mp P k w b M c) (hk : P.underlying k = some (.int .i64)) (ht : P.underlying t = some (.map k e)) {z : Value} (hz : (zeroValue e).run P w = .ok z w) {n : Int} (hw : (KL n).wf = true) :
    (Instr.lookup t (.map (some b)) (.int .i64 n) false).run P w = .ok ((M n).getD z) w := by
  obtain ⟨D, h1, h2, h3⟩ := h
  obtain ⟨v, ps, hrun, hv⟩ := h1.lookup (int_keyed hk) ht hz (zd := .held z) (zp := []) rfl (keyOf_int_mk hk hw)
  obtain ⟨h4, h5⟩ := h3 n hw
  have : v = (M n).getD z := by
    unfold RV at hv
    cases hr : M n with
    | none =>
      rw [hr] at h4
      rw [Maps.atKey_of_not_has h4] at hv
      simp at hv
      exact hv.1
    | some u =>
      rw [h5 u hr] at hv
      simp at hv
      exact hv.1
  rw [← this]; exact hrun
theorem mp_run_ok {P : Program} {w : World} {b : Nat} {M : Int → Option Value} {c : Nat} {k e t : TypeId} (h : Mp P k w b M c) (hk : P.underlying k = some (.int .i64)) (ht : P.underlying t = some (.map k e)) {z : Value} (hz : (zeroValue e).run P w = .ok z w) {n : Int} (hw : (KL n).wf = true) :
    (Instr.lookup t (.map (some b)) (.int .i64 n) true).run P w = .ok (.tuple #[(M n).getD z, .bool (M n).isSome]) w := by
  obtain ⟨D, h1, h2, h3⟩ := h
  obtain ⟨es, clock, hb, F, hn, hD⟩ := h1
  obtain ⟨h4, h5⟩ := h3 n hw
  rcases Maps.fit_look true (int_keyed hk) ht hz hb F (keyOf_int_mk hk hw) with ⟨hrun, _, hat⟩ | ⟨e0, y, _, _, hrun, hRv, hat, _⟩
  · cases hr : M n with
    | none => simpa using hrun
    | some v =>
      have := h5 v hr (.lit (.bool true))
      rw [hD, hat] at this
      cases this
  · have hy : y.1 = .held e0.val := by unfold RV at hRv; cases hRv; rfl
    cases hr : M n with
    | none =>
      rw [hr] at h4
      have := Maps.atKey_of_not_has h4 (z := (.lit (.bool true) : DataW Value))
      rw [hD, hat, hy] at this
      cases this
    | some v =>
      have := h5 v hr (.lit (.bool true))
      rw [hD, hat, hy] at this
      cases this
      simpa using hrun

theorem wpList_mp_delr {P : Program} {w : World} {ops : Array Oper} {rest : List Oper} {o : Oper} {a : Act} {Q : Exit → Act → World → Prop} (hg : o.guard = none) (m x : Operand) (t k : TypeId) (hop : o.op = Op.call { callee := Callee.builtin Builtin.delete, args := #[m, x], argTypes := #[t, k] }) (e : TypeId) (hk : P.underlying k = some (.int .i64)) (ht : P.underlying t = some (.map k e))
    (b : Nat) (M : Int → Option Value) (c : Nat) (hm : a.eval m = .map (some b)) (h : Mp P k w b M c) (n : Int) (hx : a.eval x = .int .i64 n) (hw : (KL n).wf = true)
    (c' : Nat) (hc : c' = if (M n).isSome then c - 1 else c) (hK : ∀ w', Mp P k w' b (updZ M n none) c' → w.grownBy w' (some b) → Hid (∀ r c0 left cnt, Ri P k w b r M c0 left cnt → ∃ cnt', cnt' ≤ cnt ∧ ∃ c1, Ri P k w' b r (updZ M n none) c1 (fun z => left z && !(z == n)) cnt') → wpList P ops Q rest (a.put o.dst (.tuple #[])) w') : wpList P ops Q (o :: rest) a w := by
  obtain ⟨D, h1, h2, h3⟩ := h
  refine wpList_plain hg fun K' hK' => ?_
  obtain ⟨w', hrun, h4, h5⟩ := h1.drop (int_keyed hk) ht (keyOf_int_mk hk hw) o.type
  have hs := Maps.size_del (k := KL n) (h1.tidy (int_keyed hk))
  rw [(h3 n hw).1] at hs
  have hh : Maps.size (D.del (KL n)) = c' := by
    rw [hc]
    cases q : (M n).isSome <;> simp [q] at hs ⊢ <;> omega
  have hD : ∀ x, (KL x).wf = true → Maps.has (D.del (KL n)) (KL x) = (updZ M n none x).isSome ∧ ∀ v, updZ M n none x = some v → ∀ z, (D.del (KL n)).atKey (KL x) z = .held v := by
    intro x hx
    by_cases e : x = n
    · subst e; rw [updZ_same]; exact ⟨Maps.has_del_same, fun v h => by cases h⟩
    · have ne : KL x ≠ KL n := by intro q; apply e; injection q
      rw [updZ_ne _ _ e, Maps.has_del_other ne]
      exact ⟨(h3 x hx).1, fun v hv z => by rw [Maps.atKey_del_other ne]; exact (h3 x hx).2 v hv z⟩
  unfold Oper.wp
  simp [execOp, hop, resolve, invoke, builtin, hm, hx, hrun, Result.andThen]
  refine hK' _ _ (hK w' ⟨D.del (KL n), by rw [← hh]; exact tight h4, hh, hD⟩ h5.grown (Lib.hid ?_))
  rintro r c0 left cnt ⟨D2, lf, n2, g1, g2, g3, g4⟩
  obtain ⟨w2, cnt', hrun2, r1, r2, r3⟩ := g1.drop (int_keyed hk) ht (keyOf_int_mk hk hw) o.type
  have hw2 : w2 = w' := by
    rw [hrun] at hrun2
    injection hrun2 with _ q
    exact q.symm
  subst hw2
  refine ⟨cnt', r2, _, D2.del (KL n), _, n2, r1, rfl, ?_, fun z hz => ?_⟩
  · intro x hx
    by_cases e : x = n
    · subst e; rw [updZ_same]; exact ⟨Maps.has_del_same, fun v h => by cases h⟩
    · have ne : KL x ≠ KL n := by intro q; apply e; injection q
      rw [updZ_ne _ _ e, Maps.has_del_other ne]
      exact ⟨(g3 x hx).1, fun v hv z => by rw [Maps.atKey_del_other ne]; exact (g3 x hx).2 v hv z⟩
  · dsimp only
    rw [g4 z hz]
    congr 1
    by_cases e : z = n
    · subst e; simp [Lit.sameKey]
    · have ne : KL z ≠ KL n := by intro q; apply e; injection q
      rw [Maps.sameKey_ne ne]; simp [e]

theorem zeroFn (w : World) : (zeroValue 78).run Try.prog w = .ok (.pointer none) w := by kernel_rfl
theorem zeroHo (w : World) : (zeroValue 71).run Try.prog w = .ok (.pointer none) w := by kernel_rfl
theorem zeroBx (w : World) : (zeroValue 64).run Try.prog w = .ok (.pointer none) w := by kernel_rfl
theorem zeroIn (w : World) : (zeroValue 3).run Try.prog w = .ok (.int .i64 0) w := by kernel_rfl
section
variable {w w' : World} {own : Nat → Option Tag} {y : Lay} {s : Vs}
theorem Cor.lf (h : Cor w own y s) {n : Int} {v : _} (e : s.fu.a n = some v) (hw : (KL n).wf = true) : (Instr.lookup 48 (.map (some y.mf)) (.int .i64 n) false).run Try.prog w = .ok (ptr (y.fb n)) w := by
  have := mp_run_at (h.ob .mf).2 Try.underlying3 Try.underlying48 (zeroFn w) hw
  rw [e] at this; exact this
theorem Cor.lfK (h : Cor w own y s) {n : Int} {v : _} (e : s.fu.a n = some v) (hw : (KL n).wf = true) : (Instr.lookup 48 (.map (some y.mf)) (.int .i64 n) true).run Try.prog w = .ok (.tuple #[ptr (y.fb n), .bool true]) w := by
  have := mp_run_ok (h.ob .mf).2 Try.underlying3 Try.underlying48 (zeroFn w) hw
  rw [e] at this; exact this
theorem Cor.lfN (h : Cor w own y s) {n : Int} (e : s.fu.a n = none) (hw : (KL n).wf = true) : (Instr.lookup 48 (.map (some y.mf)) (.int .i64 n) true).run Try.prog w = .ok (.tuple #[.pointer none, .bool false]) w := by
  have := mp_run_ok (h.ob .mf).2 Try.underlying3 Try.underlying48 (zeroFn w) hw
  rw [e] at this; exact this
theorem Cor.lxK (h : Cor w own y s) {n : Int} {v : _} (e : s.mx.a n = some v) (hw : (KL n).wf = true) : (Instr.lookup 50 (.map (some y.mx)) (.int .i64 n) true).run Try.prog w = .ok (.tuple #[ptr (y.bx n), .bool true]) w := by
  have := mp_run_ok (h.ob .mx).2 Try.underlying3 Try.underlying50 (zeroBx w) hw
  rw [e] at this; exact this
theorem Cor.lxN (h : Cor w own y s) {n : Int} (e : s.mx.a n = none) (hw : (KL n).wf = true) : (Instr.lookup 50 (.map (some y.mx)) (.int .i64 n) true).run Try.prog w = .ok (.tuple #[.pointer none, .bool false]) w := by
  have := mp_run_ok (h.ob .mx).2 Try.underlying3 Try.underlying50 (zeroBx w) hw
  rw [e] at this; exact this
/-- How many of a function are on a host. -/
theorem Cor.lo (h : Cor w own y s) {f : Int} {g : Fv} (e : s.fu.a f = some g) {n c : Int} (hc : (g.on.a n).getD 0 = c) (hw : (KL n).wf = true) : (Instr.lookup 44 (.map (some (y.fo f))) (.int .i64 n) false).run Try.prog w = .ok (.int .i64 c) w := by
  have := mp_run_at ((h.ob (.fo f)) g e).2 Try.underlying3 Try.underlying44 (zeroIn w) hw
  rw [this, ← hc]; cases g.on.a n <;> rfl

theorem Mp.vals {P : Program} {t : TypeId} {b : Nat} {M M' : Int → Option Value} {c : Nat} (h : Mp P t w b M c) (e : M = M') : Mp P t w b M' c := e ▸ h
/-- A number that nothing tells of. -/
structure Unused (s : Vs) (i : Int) : Prop where
  bx : s.bx i = none
  mx : s.mx.a i = none
  bo : ∀ h p, s.ho.a h = some p → p.bo.a i = none
def Lay.withB (y : Lay) (i : Int) (blk : Nat) : Lay := { y with bx := fun j => if j = i then blk else y.bx j }
def Lay.withH (y : Lay) (i : Int) (p m : Nat) : Lay := { y with hb := fun j => if j = i then p else y.hb j, hm := fun j => if j = i then m else y.hm j }
def Lay.withF (y : Lay) (i : Int) (p m : Nat) : Lay := { y with fb := fun j => if j = i then p else y.fb j, fo := fun j => if j = i then m else y.fo j }
theorem withB_at (y : Lay) (i : Int) (blk : Nat) : (y.withB i blk).bx i = blk := if_pos rfl
theorem withB_ne (y : Lay) {i j : Int} (blk : Nat) (h : j ≠ i) : (y.withB i blk).bx j = y.bx j := if_neg h
theorem withH_at (y : Lay) (i : Int) (p m : Nat) : (y.withH i p m).hb i = p ∧ (y.withH i p m).hm i = m := ⟨if_pos rfl, if_pos rfl⟩
theorem withH_ne (y : Lay) {i j : Int} (p m : Nat) (h : j ≠ i) : (y.withH i p m).hb j = y.hb j ∧ (y.withH i p m).hm j = y.hm j := ⟨if_neg h, if_neg h⟩
theorem withF_at (y : Lay) (i : Int) (p m : Nat) : (y.withF i p m).fb i = p ∧ (y.withF i p m).fo i = m := ⟨if_pos rfl, if_pos rfl⟩
theorem withF_ne (y : Lay) {i j : Int} (p m : Nat) (h : j ≠ i) : (y.withF i p m).fb j = y.fb j ∧ (y.withF i p m).fo j = y.fo j := ⟨if_neg h, if_neg h⟩
theorem MpT.lay {b : Nat} {m : Tb Unit} {i : Int} (blk : Nat) (h : MpT w b m (fun j _ => ptr (y.bx j))) (hi : m.a i = none) : MpT w b m (fun j _ => ptr ((y.withB i blk).bx j)) := by
  refine Mp.vals h (funext fun j => ?_)
  by_cases q : j = i
  · subst q; rw [hi]; rfl
  · dsimp only; rw [withB_ne y blk q]
theorem ob_withB {i : Int} (F : Unused s i) (blk : Nat) (t : Tag) (h : Ob w own y s t) : Ob w own (y.withB i blk) s t := by
  cases t with
  | mx => exact ⟨h.1, h.2.lay blk F.mx⟩
  | hm x => exact fun p hp => ⟨(h p hp).1, (h p hp).2.lay blk (F.bo x p hp)⟩
  | bx j =>
    intro b hb
    have q : j ≠ i := fun q => by subst q; rw [F.bx] at hb; cases hb
    rw [withB_ne y blk q]
    exact h b hb
  | _ => exact h
def ownB (own : Nat → Option Tag) (n : Nat) (t : Tag) : Nat → Option Tag := fun j => if j = n then some t else own j
theorem ownB_at (own : Nat → Option Tag) (n : Nat) (t : Tag) : ownB own n t n = some t := if_pos rfl
theorem ownB_old {own : Nat → Option Tag} {n : Nat} (h0 : own n = none) (u : Tag) {j : Nat} {t : Tag} (q : own j = some t) : ownB own n u j = some t := by
  unfold ownB; rw [if_neg (fun e => by rw [e, h0] at q; cases q)]; exact q
theorem ownB_lt {own : Nat → Option Tag} {n B : Nat} {u : Tag} (hn : n < B) (h : ∀ j t, own j = some t → j < B) : ∀ j t, ownB own n u j = some t → j < B := fun j t q => by
  unfold ownB at q; split at q
  · rename_i e; rw [e]; exact hn
  · exact h j t q
theorem ownB_new {own o0 : Nat → Option Tag} {n B : Nat} {u : Tag} (hn : B ≤ n) (h : ∀ j, own j ≠ none → o0 j ≠ none ∨ B ≤ j) : ∀ j, ownB own n u j ≠ none → o0 j ≠ none ∨ B ≤ j := fun j q => by
  unfold ownB at q; split at q
  · rename_i e; right; rw [e]; exact hn
  · exact h j q
/-- A new sandbox, which is in no list yet. -/
theorem Cor.newB (h : Cor w own y s) {i : Int} (F : Unused s i) {b : Bv} (hi : b.id = i) (hb : w'.heap[w.heap.size]? = some (.cells (brow b).toArray 68 (0, 0))) (hw : Below w.heap.size w w') :
    Cor w' (ownB own w.heap.size (.bx i)) (y.withB i w.heap.size) (s.setB b) ∧ Nx w own w' (ownB own w.heap.size (.bx i)) := by
  have h0 := h.fresh (Nat.le_refl w.heap.size)
  refine ⟨⟨ownB_lt (lt_of_row hb) (fun j t q => Nat.lt_of_lt_of_le (h.lt j t q) hw.size), fun t => ?_⟩, Only.of_below hw, ownB_new (Nat.le_refl _) (fun j q => Or.inl q)⟩
  have hk := (ob_withB F w.heap.size t (h.ob t)).kept (Only.of_below (S := fun _ => False) hw) (fun _ _ q => q) (fun j q => ownB_old h0 (.bx i) q)
  by_cases e : t = .bx i
  · subst e
    intro b' hb'
    have : (s.setB b).bx i = some b := by rw [← hi]; exact updZ_same _ _ _
    rw [this] at hb'; cases hb'
    rw [withB_at]
    exact ⟨ownB_at _ _ _, hb⟩
  · exact ob_setB b t (by rw [hi]; exact e) hk
/-- A new host. -/
theorem Cor.newH (h : Cor w own y s) {x : Int} (hx : s.ho.a x = none) (p m : Nat) (hp : w.heap.size ≤ p) (hm : w.heap.size ≤ m) (hpm : p ≠ m) (ho : Only w w' (fun j => j = y.mh))
    (h1 : w'.heap[p]? = some (.cells #[.int .i64 0, .int .i64 0, .map (some m)] 70 (0, 0))) (h2 : MpT w' m (Tb.nil : Tb Unit) (fun i _ => ptr (y.bx i)))
    (h3 : Mp Try.prog 3 w' y.mh (updZ (fun z => (s.ho.a z).map (fun _ => ptr (y.hb z))) x (some (ptr p))) (s.ho.n + 1)) :
    Cor w' (ownB (ownB own m (.hm x)) p (.hb x)) (y.withH x p m) (s.setH x ⟨0, 0, .nil⟩) ∧ Nx w own w' (ownB (ownB own m (.hm x)) p (.hb x)) := by
  have hm0 := h.fresh hm
  have hp0 : ownB own m (.hm x) p = none := by unfold ownB; rw [if_neg hpm]; exact h.fresh hp
  have old : ∀ j t, own j = some t → ownB (ownB own m (.hm x)) p (.hb x) j = some t := fun j t q => ownB_old hp0 _ (ownB_old hm0 _ q)
  have hmh := (h.ob .mh).1
  have k : ∀ {z : Int} {v : Hv}, (s.setH x ⟨0, 0, .nil⟩).ho.a z = some v → (z = x ∧ v = ⟨0, 0, .nil⟩) ∨ (z ≠ x ∧ s.ho.a z = some v) := by
    intro z v h
    by_cases q : z = x
    · subst q
      rw [show (s.setH z ⟨0, 0, .nil⟩).ho.a z = some ⟨0, 0, .nil⟩ from Tb.set_at _ _ _] at h
      cases h; exact Or.inl ⟨rfl, rfl⟩
    · rw [show (s.setH x ⟨0, 0, .nil⟩).ho.a z = s.ho.a z from Tb.set_ne _ _ q] at h
      exact Or.inr ⟨q, h⟩
  refine ⟨⟨ownB_lt (lt_of_row h1) (ownB_lt h2.lt (fun j t q => Nat.lt_of_lt_of_le (h.lt j t q) ho.size)), fun t => ?_⟩, ho.mono (fun j q => by rw [q, hmh]; simp), ownB_new hp (ownB_new hm (fun j q => Or.inl q))⟩
  by_cases e : t = .mh
  · subst e
    refine ⟨old _ _ hmh, ?_⟩
    have hn : (s.setH x ⟨0, 0, .nil⟩).ho.n = s.ho.n + 1 := by show (if (s.ho.a x).isSome then _ else _) = _; rw [hx]; rfl
    unfold MpT
    rw [hn]
    refine Mp.vals h3 (funext fun z => ?_)
    by_cases q : z = x
    · subst q; rw [updZ_same, show (s.setH z ⟨0, 0, .nil⟩).ho.a z = some ⟨0, 0, .nil⟩ from Tb.set_at _ _ _]; dsimp only [Option.map]; rw [(withH_at y z p m).1]
    · rw [updZ_ne _ _ q, show (s.setH x ⟨0, 0, .nil⟩).ho.a z = s.ho.a z from Tb.set_ne _ _ q]; dsimp only; rw [(withH_ne y p m q).1]
  · have hk := (h.ob t).kept ho (fun j q q' => e (by rw [q', hmh] at q; cases q; rfl)) (fun j q => old _ _ q)
    cases t with
    | mh => exact absurd rfl e
    | hb z =>
      intro v hv
      rcases k hv with ⟨rfl, rfl⟩ | ⟨q, hv'⟩
      · rw [(withH_at y z p m).1]; unfold hrow; rw [(withH_at y z p m).2]; exact ⟨ownB_at _ _ _, h1⟩
      · rw [(withH_ne y p m q).1]; unfold hrow; rw [(withH_ne y p m q).2]; exact hk v hv'
    | hm z =>
      intro v hv
      rcases k hv with ⟨rfl, rfl⟩ | ⟨q, hv'⟩
      · rw [(withH_at y z p m).2]; exact ⟨ownB_old hp0 _ (ownB_at _ _ _), h2⟩
      · rw [(withH_ne y p m q).2]; exact hk v hv'
    | _ => exact hk
/-- A new function. -/
theorem Cor.newF (h : Cor w own y s) {x : Int} (hx : s.fu.a x = none) (p m : Nat) (hp : w.heap.size ≤ p) (hm : w.heap.size ≤ m) (hpm : p ≠ m) (ho : Only w w' (fun j => j = y.mf))
    (h1 : w'.heap[p]? = some (.cells #[.int .i64 0, .map (some m)] 81 (0, 0))) (h2 : MpT w' m (Tb.nil : Tb Int) (fun _ c => .int .i64 c))
    (h3 : Mp Try.prog 3 w' y.mf (updZ (fun z => (s.fu.a z).map (fun _ => ptr (y.fb z))) x (some (ptr p))) (s.fu.n + 1)) :
    Cor w' (ownB (ownB own m (.fo x)) p (.fb x)) (y.withF x p m) (s.setF x ⟨0, .nil⟩) ∧ Nx w own w' (ownB (ownB own m (.fo x)) p (.fb x)) := by
  have hm0 := h.fresh hm
  have hp0 : ownB own m (.fo x) p = none := by unfold ownB; rw [if_neg hpm]; exact h.fresh hp
  have old : ∀ j t, own j = some t → ownB (ownB own m (.fo x)) p (.fb x) j = some t := fun j t q => ownB_old hp0 _ (ownB_old hm0 _ q)
  have hmh := (h.ob .mf).1
  have k : ∀ {z : Int} {v : Fv}, (s.setF x ⟨0, .nil⟩).fu.a z = some v → (z = x ∧ v = ⟨0, .nil⟩) ∨ (z ≠ x ∧ s.fu.a z = some v) := by
    intro z v h
    by_cases q : z = x
    · subst q
      rw [show (s.setF z ⟨0, .nil⟩).fu.a z = some ⟨0, .nil⟩ from Tb.set_at _ _ _] at h
      cases h; exact Or.inl ⟨rfl, rfl⟩
    · rw [show (s.setF x ⟨0, .nil⟩).fu.a z = s.fu.a z from Tb.set_ne _ _ q] at h
      exact Or.inr ⟨q, h⟩
  refine ⟨⟨ownB_lt (lt_of_row h1) (ownB_lt h2.lt (fun j t q => Nat.lt_of_lt_of_le (h.lt j t q) ho.size)), fun t => ?_⟩, ho.mono (fun j q => by rw [q, hmh]; simp), ownB_new hp (ownB_new hm (fun j q => Or.inl q))⟩
  by_cases e : t = .mf
  · subst e
    refine ⟨old _ _ hmh, ?_⟩
    have hn : (s.setF x ⟨0, .nil⟩).fu.n = s.fu.n + 1 := by show (if (s.fu.a x).isSome then _ else _) = _; rw [hx]; rfl
    unfold MpT
    rw [hn]
    refine Mp.vals h3 (funext fun z => ?_)
    by_cases q : z = x
    · subst q; rw [updZ_same, show (s.setF z ⟨0, .nil⟩).fu.a z = some ⟨0, .nil⟩ from Tb.set_at _ _ _]; dsimp only [Option.map]; rw [(withF_at y z p m).1]
    · rw [updZ_ne _ _ q, show (s.setF x ⟨0, .nil⟩).fu.a z = s.fu.a z from Tb.set_ne _ _ q]; dsimp only; rw [(withF_ne y p m q).1]
  · have hk := (h.ob t).kept ho (fun j q q' => e (by rw [q', hmh] at q; cases q; rfl)) (fun j q => old _ _ q)
    cases t with
    | mf => exact absurd rfl e
    | fb z =>
      intro v hv
      rcases k hv with ⟨rfl, rfl⟩ | ⟨q, hv'⟩
      · rw [(withF_at y z p m).1]; unfold frow; rw [(withF_at y z p m).2]; exact ⟨ownB_at _ _ _, h1⟩
      · rw [(withF_ne y p m q).1]; unfold frow; rw [(withF_ne y p m q).2]; exact hk v hv'
    | fo z =>
      intro v hv
      rcases k hv with ⟨rfl, rfl⟩ | ⟨q, hv'⟩
      · rw [(withF_at y z p m).2]; exact ⟨ownB_old hp0 _ (ownB_at _ _ _), h2⟩
      · rw [(withF_ne y p m q).2]; exact hk v hv'
    | _ => exact hk
end
end Go.Proofs.Ytgpookphacdgoaa.W.U
