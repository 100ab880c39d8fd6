/- More laws in the words of maps and blocks: whatever the program. -/
import Derived.Test.YtgpookphacdgoaaItm
namespace Go.Proofs.Ytgpookphacdgoaa.W
open Go.RowKit

theorem run_equalIn_func_nil {P : Program} {t : TypeId} {ps rs : Array TypeId} {vd : Bool} (w : World) (d : Nat) (h : P.underlying t = some (.func ps rs vd)) (fn : Fn) (fi ca : Array Value) : (Op.equalIn (d + 1) t (.func fn fi ca) .nilFunc).run P w = .ok false w := by
  simp [Op.equalIn, run_underlying h]
theorem run_neq_func_nil {P : Program} {t : TypeId} {ps rs : Array TypeId} {vd : Bool} (h : P.underlying t = some (.func ps rs vd)) (w : World) (fn : Fn) (fi ca : Array Value) : (binOp .neq t (.func fn fi ca) .nilFunc).run P w = .ok (.bool true) w := by
  simp only [binOp]
  simp [Op.equal, Op.maxDepth, run_equalIn_func_nil w 9999 h fn fi ca]
theorem len3_0 (a b c : Value) : 0 < [a, b, c].length := by simp
theorem len3_1 (a b c : Value) : 1 < [a, b, c].length := by simp
theorem len3_2 (a b c : Value) : 2 < [a, b, c].length := by simp
theorem len2_0 (a b : Value) : 0 < [a, b].length := by simp
theorem len2_1 (a b : Value) : 1 < [a, b].length := by simp
theorem cells_map (x : Option Nat) : (Value.map x).cells = #[.map x] := rfl
theorem one_map (x : Option Nat) : (Value.map x).oneCell' = true := rfl
theorem cells_slice (x : Option Addr) (a b : Nat) : (Value.slice x a b).cells = #[.slice x a b] := rfl
theorem one_slice (x : Option Addr) (a b : Nat) : (Value.slice x a b).oneCell' = true := rfl
theorem cells_ptr (x : Option Addr) : (Value.pointer x).cells = #[.pointer x] := rfl
theorem one_ptr (x : Option Addr) : (Value.pointer x).oneCell' = true := rfl
theorem range_new (w : World) (cs : List Value) (t : TypeId) : (w.alloc (.cells cs.toArray t)).rangeAt w.heap.size 0 cs := fun j v hv => by rw [Nat.zero_add]; exact cellL (heap_alloc_new w _) j v hv

section
variable {P : Program} {w : World} {ops : Array Oper} {rest : List Oper} {o : Oper} {a : Act} {Q : Exit → Act → World → Prop}
theorem wpList_mp_some (hg : o.guard = none) (m x : Operand) (t : TypeId) (hop : o.op = Op.lookup t m x true) (k e : TypeId) (hk : P.underlying k = some (.int .i64)) (ht : P.underlying t = some (.map k e))
    {z : Value} (hz : (zeroValue e).run P w = .ok z w) (b : Nat) (M : Int → Option Value) (c : Nat) (hm : a.eval m = .map (some b)) (h : Mp P k w b M c) (n : Int) (hx : a.eval x = .int .i64 n) (hw : (KL n).wf = true)
    (v : Value) (hr : M n = some v) (hK : wpList P ops Q rest (a.put o.dst (.tuple #[v, .bool true])) w) : wpList P ops Q (o :: rest) a w :=
  wpList_mp_ok hg m x t hop k e hk ht hz b M c hm h n hx hw (some v) hr hK
theorem wpList_mp_none (hg : o.guard = none) (m x : Operand) (t : TypeId) (hop : o.op = Op.lookup t m x true) (k e : TypeId) (hk : P.underlying k = some (.int .i64)) (ht : P.underlying t = some (.map k e))
    {z : Value} (hz : (zeroValue e).run P w = .ok z w) (b : Nat) (M : Int → Option Value) (c : Nat) (hm : a.eval m = .map (some b)) (h : Mp P k w b M c) (n : Int) (hx : a.eval x = .int .i64 n) (hw : (KL n).wf = true)
    (hr : M n = none) (hK : wpList P ops Q rest (a.put o.dst (.tuple #[z, .bool false])) w) : wpList P ops Q (o :: rest) a w :=
  wpList_mp_ok hg m x t hop k e hk ht hz b M c hm h n hx hw none hr hK
/-- A value of one cell into a cell of a block that is known whole. -/
theorem wpList_store_one (hgd : o.guard = none) (ty : TypeId) (p y : Operand) (ho : o.op = .store ty p y) (hsz : (P.info? ty).map (·.size) = some 1)
    (b j : Nat) (hp : a.eval p = .pointer (some ⟨b, j, none⟩)) (u : Value) (hy : a.eval y = u) (h1 : u.cells = #[u]) (h1' : u.oneCell' = true) (cur : List Value) (t : TypeId) (hg : w.heap[b]? = some (.cells cur.toArray t (0, 0))) (hj : j < cur.length)
    (h : ∀ w', Hid (w'.heap[b]? = some (.cells (cur.set j u).toArray t (0, 0))) → w.grownBy w' (some b) → wpList P ops Q rest (a.put o.dst undef) w') : wpList P ops Q (o :: rest) a w := by
  refine wpList_plain hgd fun K hK => ?_
  cases hq : P.info? ty with
  | none => simp [hq] at hsz
  | some i =>
    have hs : i.size = 1 := by simpa [hq] using hsz
    have h2 := run_storeCells_cells (P := P) b j [u] 0 w (fun i hi => by
      obtain rfl : i = 0 := by simp at hi; omega
      rw [show j + 0 + 0 = j from rfl, cellL hg j _ (List.getElem?_eq_getElem hj)]; rfl) (fun i hi => by
      obtain rfl : i = 0 := by simp at hi; omega
      exact frozen_of_row w b _ _ _ hg) (by simpa using h1')
    simp only [World.setCells, Nat.add_zero] at h2
    have hrun : (Instr.storeAt ty (.pointer (some ⟨b, j, none⟩)) u).run P w = .ok () (w.setCell ⟨b, j, none⟩ u) := by
      simp [Instr.storeAt, Instr.sureAddr, storeVar, sizeOf, typeInfo, hq, hs, h1, h2]
    unfold Oper.wp execOp
    simp only [ho, hp, hy, hrun, Sem.run_bind, Sem.run_pure, Result.andThen]
    refine hK _ _ (h _ (show _ = _ from set_rowL hg j _) (grown_set w 0 b j _))
end
end Go.Proofs.Ytgpookphacdgoaa.W
