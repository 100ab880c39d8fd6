/- Laws for structs within a block that is known whole, and for boxes of structs: whatever the program. -/
import Derived.Test.YtgpookphacdgoaaBlk
import Derived.BigRegion
namespace Go.Proofs.Ytgpookphacdgoaa.W
open Go.RowKit

/-- A struct that was just reckoned, into a block of its own. -/
theorem wpList_box_row {P : Program} {w : World} {ops : Array Oper} {rest : List Oper} {o : Oper} {a : Act} {Q : Exit → Act → World → Prop} (hgd : o.guard = none) (t : TypeId) (x : Operand) (ho : o.op = .box t x) (cs : Array Value) (hx : a.eval x = .agg cs)
    (h : wpList P ops Q rest (a.put o.dst (.pointer (some ⟨w.heap.size, 0, none⟩))) (w.alloc (.cells cs t))) : wpList P ops Q (o :: rest) a w := by
  refine wpList_plain hgd fun K hK => ?_
  have hrun : (Instr.box t (.agg cs)).run P w = .ok (.pointer (some ⟨w.heap.size, 0, none⟩)) (w.alloc (.cells cs t)) := by
    simp [Instr.box, newVar, newRow, Value.cells]
  unfold Oper.wp execOp
  simp only [ho, hx, hrun, Sem.run_bind, Sem.run_pure, Result.andThen]
  exact hK _ _ h

/-- A struct's zero. -/
theorem wpList_build_none {P : Program} {w : World} {ops : Array Oper} {rest : List Oper} {o : Oper} {a : Act} {Q : Exit → Act → World → Prop} (hgd : o.guard = none) (t : TypeId) (ho : o.op = .build t #[]) (cs : Array Value) (hb : P.built t [] = some cs)
    (h : wpList P ops Q rest (a.put o.dst (.agg cs)) w) : wpList P ops Q (o :: rest) a w := by
  refine wpList_plain hgd fun K hK => ?_
  have hrun := run_build (P := P) w t #[] cs hb
  unfold Oper.wp execOp
  simp only [ho, List.map_toArray, List.map_nil, hrun, Sem.run_bind, Sem.run_pure, Result.andThen]
  exact hK _ _ h

/-- A struct of an array by value. -/
theorem wpList_index_row {P : Program} {ops : Array Oper} {rest : List Oper} {o : Oper} {a : Act} {w : World} {Q : Exit → Act → World → Prop} (hgd : o.guard = none) (ty : TypeId) (x ix : Operand) (ho : o.op = .index ty x ix)
    (n : Nat) (e : TypeId) (hu : P.underlying ty = some (.array n e)) (d : TypeDesc) (hue : P.underlying e = some d) (hd : d.isRow = true) (z : Nat) (hsz : (P.info? e).map (·.size) = some z)
    (cs : List Value) (hx : a.eval x = .agg cs.toArray) (k : IntKind) (i : Nat) (hi : a.eval ix = .int k (i : Int)) (hin : i < n) (vs : Array Value) (hv : cs.toArray.extract (i * z) (i * z + z) = vs)
    (h : wpList P ops Q rest (a.put o.dst (.agg vs)) w) : wpList P ops Q (o :: rest) a w := by
  refine wpList_plain hgd fun K hK => ?_
  cases hq : P.info? e with
  | none => simp [hq] at hsz
  | some ie =>
    have hs : ie.size = z := by simpa [hq] using hsz
    have hagg : (isAgg e).run P w = .ok true w := by
      unfold isAgg
      rw [Sem.run_bind, run_underlying hue w]
      cases d <;> simp_all
    have hrun : (Instr.index ty (.agg cs.toArray) (.int k (i : Int))).run P w = .ok (.agg vs) w := by
      rw [← hv]
      simp [Instr.index, asIntOf, run_underlying hu, sizeOf, typeInfo, hq, hs, part, hagg]
      omega
    unfold Oper.wp execOp
    simp only [ho, hx, hi, hrun, Sem.run_bind, Sem.run_pure, Result.andThen]
    exact hK _ _ h

theorem dec_f {p : Prop} [Decidable p] (h : ¬ p) : decide p = false := decide_eq_false h

theorem row_kept {w w' : World} {q b : Nat} {o : Obj} (h : w.heap[q]? = some o) (hg : w.grownBy w' (some b)) (hne : q ≠ b) : w'.heap[q]? = some o := by
  rw [hg.block q (lt_of_row h) (by simpa using hne)]; exact h

/-- These values from a place on. -/
def setQ : List Value → Nat → List Value → List Value
  | cur, _, [] => cur
  | cur, o, v :: r => setQ (cur.set o v) (o + 1) r

theorem row_setCells {g : Nat} {t : TypeId} : ∀ (vs : List Value) (o : Nat) {w : World} {cur : List Value}, w.heap[g]? = some (.cells cur.toArray t (0, 0)) → (w.setCells g o vs).heap[g]? = some (.cells (setQ cur o vs).toArray t (0, 0))
  | [], _, _, _, h => h
  | v :: r, o, w, cur, h => by
    rw [World.setCells, setQ]
    exact row_setCells r (o + 1) (set_rowL h o v)

theorem grown_setCells {g : Nat} : ∀ (vs : List Value) (o : Nat) {w w0 : World}, w0.grownBy w (some g) → w0.grownBy (w.setCells g o vs) (some g)
  | [], _, _, _, h => h
  | v :: r, o, w, w0, h => by
    rw [World.setCells]
    exact grown_setCells r (o + 1) (grown_put h o v)

/-- A struct into the middle of a block that is known whole. -/
theorem wpList_store_part {P : Program} {w : World} {ops : Array Oper} {rest : List Oper} {o : Oper} {a : Act} {Q : Exit → Act → World → Prop} (hgd : o.guard = none) (ty : TypeId) (x y : Operand) (ho : o.op = .store ty x y)
    (b off : Nat) (vs : List Value) (hx : a.eval x = .pointer (some ⟨b, off, none⟩)) (hy : a.eval y = .agg vs.toArray) (cur : List Value) (t : TypeId) (hg : w.heap[b]? = some (.cells cur.toArray t (0, 0))) (hfit : off + vs.length ≤ cur.length)
    (hi : (P.info? ty).map (·.size) = some vs.length) (h1 : ∀ v ∈ vs, v.oneCell' = true)
    (h : ∀ w', Hid (w'.heap[b]? = some (.cells (setQ cur off vs).toArray t (0, 0))) → w.grownBy w' (some b) → wpList P ops Q rest (a.put o.dst undef) w') : wpList P ops Q (o :: rest) a w := by
  refine wpList_store_mid hgd ty x y ho b off vs.toArray hx hy ?_ (by simpa using hi) (all_oneCell_toArray h1) ?_
  · intro j hj
    have hj' : j < vs.length := by simpa using hj
    exact ⟨by rw [cellL hg (off + j) _ (List.getElem?_eq_getElem (by omega))]; rfl, frozen_of_row w b _ _ _ hg⟩
  · exact h _ (show _ = _ from row_setCells vs off hg) (grown_setCells vs off (World.grownBy.refl _ _))

/-- A bool into a cell of a block that is known whole. -/
theorem wpList_store_boolin {P : Program} {w : World} {ops : Array Oper} {rest : List Oper} {o : Oper} {a : Act} {Q : Exit → Act → World → Prop} (hgd : o.guard = none) (ty : TypeId) (p y : Operand) (ho : o.op = .store ty p y) (hsz : (P.info? ty).map (·.size) = some 1)
    (b j : Nat) (hp : a.eval p = .pointer (some ⟨b, j, none⟩)) (x : Bool) (hy : a.eval y = .bool x) (cur : List Value) (t : TypeId) (hg : w.heap[b]? = some (.cells cur.toArray t (0, 0))) (hj : j < cur.length)
    (h : ∀ w', Hid (w'.heap[b]? = some (.cells (cur.set j (.bool x)).toArray t (0, 0))) → w.grownBy w' (some b) → wpList P ops Q rest (a.put o.dst undef) w') : wpList P ops Q (o :: rest) a w := by
  refine wpList_plain hgd fun K hK => ?_
  cases hq : P.info? ty with
  | none => simp [hq] at hsz
  | some i =>
    have hs : i.size = 1 := by simpa [hq] using hsz
    have h1 := run_storeCells_cells (P := P) b j [.bool x] 0 w (fun i hi => by
      obtain rfl : i = 0 := by simp at hi; omega
      rw [show j + 0 + 0 = j from rfl, cellL hg j _ (List.getElem?_eq_getElem hj)]; rfl) (fun i hi => by
      obtain rfl : i = 0 := by simp at hi; omega
      exact frozen_of_row w b _ _ _ hg) (by simp [Value.oneCell'])
    simp only [World.setCells, Nat.add_zero] at h1
    have hrun : (Instr.storeAt ty (.pointer (some ⟨b, j, none⟩)) (.bool x)).run P w = .ok () (w.setCell ⟨b, j, none⟩ (.bool x)) := by
      simp [Instr.storeAt, Instr.sureAddr, storeVar, sizeOf, typeInfo, hq, hs, Value.cells, h1]
    unfold Oper.wp execOp
    simp only [ho, hp, hy, hrun, Sem.run_bind, Sem.run_pure, Result.andThen]
    refine hK _ _ (h _ (show _ = _ from set_rowL hg j _) (grown_set w 0 b j _))
end Go.Proofs.Ytgpookphacdgoaa.W
