/- Words for a block of cells that is known whole, and laws in these words for whole arrays, their cells, and copies into them: whatever the program. -/
import Derived.Test.YtgpookphacdgoaaMem
import Derived.Deep.MidRow
import Derived.Deep.QuietTactic
import Derived.BigQuiet
import Derived.StillTailTactics
import Derived.Deep.LoopGhost
namespace Go.Proofs.Ytgpookphacdgoaa.W
open Go.RowKit

theorem frozen_of_row (w : World) (g j : Nat) (cs : Array Value) (t : TypeId) (hg : w.heap[g]? = some (.cells cs t (0, 0))) : w.frozen? ⟨g, j, none⟩ = false := by
  simp [World.frozen?, hg]
theorem set_row {w : World} {g : Nat} {cs : Array Value} {t : TypeId} (hg : w.heap[g]? = some (.cells cs t (0, 0))) (i : Nat) (u : Value) :
    (w.setCell ⟨g, i, none⟩ u).heap[g]? = some (.cells (cs.setIfInBounds i u) t (0, 0)) := by
  simp [World.setCell, Array.getElem?_modify, hg]
theorem set_rowL {w : World} {g : Nat} {cs : List Value} {t : TypeId} (hg : w.heap[g]? = some (.cells cs.toArray t (0, 0))) (i : Nat) (u : Value) :
    (w.setCell ⟨g, i, none⟩ u).heap[g]? = some (.cells (cs.set i u).toArray t (0, 0)) := by
  rw [set_row hg]; simp
theorem lt_of_row {w : World} {g : Nat} {o : Obj} (hg : w.heap[g]? = some o) : g < w.heap.size := by
  rcases Nat.lt_or_ge g w.heap.size with hl | hl
  · exact hl
  · rw [Array.getElem?_eq_none hl] at hg; cases hg
theorem grown_set (w : World) (n r j : Nat) (v : Value) : w.grownBy ((w.drewN n).setCell ⟨r, j, none⟩ v) (some r) :=
  ⟨rfl, rfl, rfl, by simp [World.setCell], fun k _ hr => Below.heap_setCell (w.drewN n) _ _ _ (by simpa using hr)⟩
theorem grown_put {w w' : World} {r : Nat} (h : w.grownBy w' (some r)) (j : Nat) (v : Value) : w.grownBy (w'.setCell ⟨r, j, none⟩ v) (some r) :=
  grown_trans h (grown_set w' 0 r j v)
theorem grown_drewN (w : World) (n : Nat) (row : Option Nat) : w.grownBy (w.drewN n) row := ⟨rfl, rfl, rfl, Nat.le_refl _, fun _ _ _ => rfl⟩
theorem drewN_two (w : World) (a b : Nat) : (w.drewN a).drewN b = w.drewN (a + b) := by simp [World.drewN, Nat.add_assoc]
theorem drewN_zero (w : World) : w = w.drewN 0 := rfl
theorem grown_drew {w w' : World} {row : Option Nat} (h : w.grownBy w' row) : w.grownBy w'.drew row := grown_trans h (grown_drewN w' 1 row)
theorem cellL {w : World} {g : Nat} {cs : List Value} {t : TypeId} {fr : Nat × Nat} (hg : w.heap[g]? = some (.cells cs.toArray t fr)) (j : Nat) (v : Value) (hv : cs[j]? = some v) : w.cell? ⟨g, j, none⟩ = some v := by
  rw [cell_of_row w g j _ _ _ hg]; simpa using hv
theorem quiet_eq {P : Program} {f : FuncId} {args : Array Value} {w : World} {v : Value} (h : Calls P f args w fun e w' => e = .returned v ∧ w = w') :
    Calls P f args w fun e w' => e = .returned v ∧ w' = w := h.mono fun _ _ ⟨he, hw⟩ => ⟨he, hw.symm⟩
theorem ret_bool {a b : Bool} (h : a = b) : Ending.returned (.bool a) = .returned (.bool b) := by rw [h]
theorem own_cap {w : World} {base : Nat} {e : TypeId} {g n cap : Nat} {vs : List Value} (h : w.ownsRow base e 1 (.slice (some ⟨g, 0, none⟩) n cap) n vs) : n ≤ cap ∧ g < w.heap.size ∧ base ≤ g := by
  have hl := h.lt g rfl
  rcases h.2 with ⟨hv, _⟩ | ⟨g', cap', cur, hv, _, _, hnc, _⟩
  · cases hv
  · injection hv with _ _ hv; subst hv; exact ⟨hnc, hl.2, hl.1⟩
theorem below_row {B r : Nat} {w0 w w' : World} (hb : Below B w0 w) (hr : B ≤ r) (hg : w.grownBy w' (some r)) (hB : B ≤ w.heap.size) : Below B w0 w' :=
  hb.grown hg hB (fun j hj => by injection hj with hj; omega)

/-- A mask of so many bits. -/
theorem and_mask (n m : Int) (k M : Nat) (hm : (BitVec.ofInt 64 m).toNat = 2 ^ k - 1) (hM : 2 ^ k = M) (hk : k ≤ 62) : bits .and .i64 n m = n % (M : Int) := by
  have key : (BitVec.ofInt 64 n &&& BitVec.ofInt 64 m).toNat = (n % ((2 ^ 64 : Nat) : Int)).toNat % 2 ^ k := by
    rw [BitVec.toNat_and, BitVec.toNat_ofInt, hm, Nat.and_two_pow_sub_one_eq_mod]
  show IntKind.i64.wrap ((BitVec.ofInt 64 n &&& BitVec.ofInt 64 m).toNat : Nat) = n % M
  have hle : 2 ^ k ≤ 2 ^ 62 := Nat.pow_le_pow_right (by omega) hk
  have hpos : 0 < 2 ^ k := Nat.pow_pos (by omega)
  have hdvd : (M : Int) ∣ ((2 ^ 64 : Nat) : Int) := by
    rw [← hM]; exact Int.natCast_dvd_natCast.2 (Nat.pow_dvd_pow 2 (by omega))
  have e : (((n % ((2 ^ 64 : Nat) : Int)).toNat % 2 ^ k : Nat) : Int) = n % (M : Int) := by
    rw [Int.natCast_emod, Int.toNat_of_nonneg (Int.emod_nonneg _ (by decide)), hM, Int.emod_emod_of_dvd _ hdvd]
  rw [key, e, IntKind.wrap_i64]
  have h1 : 0 ≤ n % (M : Int) := Int.emod_nonneg _ (by omega)
  have h2 : n % (M : Int) < M := Int.emod_lt_of_pos _ (by omega)
  have h3 : (M : Int) ≤ 4611686018427387904 := by rw [← hM]; exact Int.ofNat_le.2 hle
  generalize n % (M : Int) = q at *
  omega
theorem and_nat (n m : Int) (k M : Nat) (hm : (BitVec.ofInt 64 m).toNat = 2 ^ k - 1) (hM : 2 ^ k = M) (hk : k ≤ 62) : ∃ q : Nat, bits .and .i64 n m = (q : Int) ∧ q < M := by
  rw [and_mask n m k M hm hM hk]
  have hpos : 0 < 2 ^ k := Nat.pow_pos (by omega)
  have h1 : 0 ≤ n % (M : Int) := Int.emod_nonneg _ (by omega)
  have h2 : n % (M : Int) < M := Int.emod_lt_of_pos _ (by omega)
  exact ⟨(n % (M : Int)).toNat, by omega, by omega⟩
theorem and_natnat (n : Nat) (m : Int) (k M : Nat) (hm : (BitVec.ofInt 64 m).toNat = 2 ^ k - 1) (hM : 2 ^ k = M) (hk : k ≤ 62) : bits .and .i64 (n : Int) m = ((n % M : Nat) : Int) := by
  rw [and_mask n m k M hm hM hk]; rfl

abbrev ints (l : List Int) : List Value := l.map (Value.int .i64)
theorem ones_i64 (l : List Int) : ∀ u ∈ ints l, u.oneCell' = true := by
  intro u hu
  obtain ⟨_, _, rfl⟩ := List.mem_map.1 hu
  rfl

/-- A whole array out of the head of a block that is known. -/
theorem wpList_load_head {P : Program} {ops : Array Oper} {rest : List Oper} {o : Oper} {a : Act} {w : World} {Q : Exit → Act → World → Prop} (hgd : o.guard = none) (ty : TypeId) (x : Operand) (ho : o.op = .load ty x)
    (b : Nat) (hx : a.eval x = .pointer (some ⟨b, 0, none⟩)) (cs cs' : List Value) (t : TypeId) (fr : Nat × Nat) (n : Nat) (e : TypeId) (hb : w.heap[b]? = some (.cells (cs ++ cs').toArray t fr))
    (hu : P.underlying ty = some (.array n e)) (hi : (P.info? ty).map (·.size) = some cs.length)
    (h : wpList P ops Q rest (a.put o.dst (.agg cs.toArray)) w) : wpList P ops Q (o :: rest) a w := by
  refine wpList_load_mid hgd ty x ho b 0 hx cs _ ?_ hu rfl hi h
  intro j v hv
  rw [Nat.zero_add]
  refine cellL hb j v ?_
  rw [List.getElem?_append_left (List.getElem?_eq_some_iff.1 hv).1]; exact hv

/-- A cell of an array by value. -/
theorem wpList_index_cell {P : Program} {ops : Array Oper} {rest : List Oper} {o : Oper} {a : Act} {w : World} {Q : Exit → Act → World → Prop} (hgd : o.guard = none) (ty : TypeId) (x ix : Operand) (ho : o.op = .index ty x ix)
    (n : Nat) (e : TypeId) (hu : P.underlying ty = some (.array n e)) (d : TypeDesc) (hue : P.underlying e = some d) (hd : d.isRow = false) (hsz : (P.info? e).map (·.size) = some 1)
    (cs : List Value) (hx : a.eval x = .agg cs.toArray) (k : IntKind) (i : Nat) (hi : a.eval ix = .int k (i : Int)) (hin : i < n) (v : Value) (hv : cs[i]? = some v)
    (h : wpList P ops Q rest (a.put o.dst v) w) : wpList P ops Q (o :: rest) a w := by
  refine wpList_plain hgd fun K hK => ?_
  cases hq : P.info? e with
  | none => simp [hq] at hsz
  | some ie =>
    have hs : ie.size = 1 := by simpa [hq] using hsz
    have hagg : (isAgg e).run P w = .ok false w := by
      unfold isAgg
      rw [Sem.run_bind, run_underlying hue w]
      cases d <;> simp_all
    have hrun : (Instr.index ty (.agg cs.toArray) (.int k (i : Int))).run P w = .ok v w := by
      simp [Instr.index, asIntOf, run_underlying hu, sizeOf, typeInfo, hq, hs, part, hagg, hv]
      omega
    unfold Oper.wp execOp
    simp only [ho, hx, hi, hrun, Sem.run_bind, Sem.run_pure, Result.andThen]
    exact hK _ _ h

/-- copy into a block that is known whole; its source may lie in it. -/
theorem wpList_copy_in {P : Program} {w : World} {ops : Array Oper} {rest : List Oper} {o : Oper} {a : Act} {Q : Exit → Act → World → Prop} (hgd : o.guard = none) (d s : Operand) (dT sT : TypeId)
    (ho : o.op = .call { callee := .builtin .copy, args := #[d, s], argTypes := #[dT, sT] }) (elem : TypeId) (hu : P.underlying dT = some (.slice elem)) (hsz : (P.info? elem).map (·.size) = some 1)
    (g off dLen dCap : Nat) (ad : Addr) (sLen sCap : Nat) (hd : a.eval d = .slice (some ⟨g, off, none⟩) dLen dCap) (hs : a.eval s = .slice (some ad) sLen sCap)
    (cur : List Value) (t : TypeId) (hg : w.heap[g]? = some (.cells cur.toArray t (0, 0))) (cs : List Value) (hn : cs.length = Nat.min sLen dLen)
    (hsrc : ∀ j v, cs[j]? = some v → w.cell? (ad.add j) = some v) (hfit : off + cs.length ≤ cur.length) (h1 : ∀ v ∈ cs, v.oneCell' = true)
    (h : ∀ w', Hid (w'.heap[g]? = some (.cells (splice cur off cs).toArray t (0, 0))) → w.grownBy w' (some g) → wpList P ops Q rest (a.put o.dst (goInt cs.length)) w') : wpList P ops Q (o :: rest) a w := by
  refine wpList_copy_own hgd d s dT sT ho elem hu hsz g off dLen dCap ad sLen sCap hd hs cur.toArray t hg cs hn hsrc (by simpa using hfit) h1 ?_
  exact h _ (show _ = _ by simpa [splice] using setRow_heap w g _ _ t _ hg) ⟨rfl, rfl, rfl, by simp [World.setRow], fun k _ hk => setRow_other w g k _ (by intro e; exact hk (by rw [e]))⟩

/-- A whole number into a cell of a block that is known whole. -/
theorem wpList_store_in {P : Program} {w : World} {ops : Array Oper} {rest : List Oper} {o : Oper} {a : Act} {Q : Exit → Act → World → Prop} (hgd : o.guard = none) (ty : TypeId) (p y : Operand) (ho : o.op = .store ty p y) (hsz : (P.info? ty).map (·.size) = some 1)
    (b j : Nat) (hp : a.eval p = .pointer (some ⟨b, j, none⟩)) (k : IntKind) (x : Int) (hy : a.eval y = .int k x) (cur : List Value) (t : TypeId) (hg : w.heap[b]? = some (.cells cur.toArray t (0, 0))) (hj : j < cur.length)
    (h : ∀ w', Hid (w'.heap[b]? = some (.cells (cur.set j (.int k x)).toArray t (0, 0))) → w.grownBy w' (some b) → wpList P ops Q rest (a.put o.dst undef) w') : wpList P ops Q (o :: rest) a w := by
  refine wpList_plain hgd fun K hK => ?_
  cases hq : P.info? ty with
  | none => simp [hq] at hsz
  | some i =>
    have hs : i.size = 1 := by simpa [hq] using hsz
    have h1 := run_storeCells_cells (P := P) b j [.int k x] 0 w (fun i hi => by
      obtain rfl : i = 0 := by simp at hi; omega
      rw [show j + 0 + 0 = j from rfl, cellL hg j _ (List.getElem?_eq_getElem hj)]; rfl) (fun i hi => by
      obtain rfl : i = 0 := by simp at hi; omega
      exact frozen_of_row w b _ _ _ hg) (by simp [Value.oneCell'])
    simp only [World.setCells, Nat.add_zero] at h1
    have hrun : (Instr.storeAt ty (.pointer (some ⟨b, j, none⟩)) (.int k x)).run P w = .ok () (w.setCell ⟨b, j, none⟩ (.int k x)) := by
      simp [Instr.storeAt, Instr.sureAddr, storeVar, sizeOf, typeInfo, hq, hs, Value.cells, h1]
    unfold Oper.wp execOp
    simp only [ho, hp, hy, hrun, Sem.run_bind, Sem.run_pure, Result.andThen]
    refine hK _ _ (h _ (show _ = _ from set_rowL hg j _) (grown_set w 0 b j _))

theorem Lies.int {w : World} {B : Nat} {A : Option Addr} {xs : List Int} (h : Lies w B A (ints xs)) {i : Nat} (hi : i < xs.length) : ∃ ad x, A = some ad ∧ ad.block < B ∧ xs[i]? = some x ∧ w.cell? (ad.add i) = some (.int .i64 x) := by
  obtain ⟨ad, e, hb, hc⟩ := h.at_ (k := i) (by simpa using hi)
  exact ⟨ad, xs[i], e, hb, List.getElem?_eq_getElem hi, by simpa using hc⟩
theorem take_snoc {xs : List Int} {i : Nat} {x : Int} (h : xs[i]? = some x) : xs.take (i + 1) = xs.take i ++ [x] := by
  rw [List.take_add_one, h]; rfl

/-- The greater and the less one, under a name. -/
theorem wpList_max_to {P : Program} {w : World} {ops : Array Oper} {rest : List Oper} {o : Oper} {a : Act} {Q : Exit → Act → World → Prop} (hgd : o.guard = none) (x y : Operand) (t u : TypeId)
    (ho : o.op = .call { callee := .builtin .max, args := #[x, y], argTypes := #[t, u] }) (k k' : IntKind) (p q m : Int) (hx : a.eval x = .int k p) (hy : a.eval y = .int k' q) (hm : m = max p q)
    (h : wpList P ops Q rest (a.put o.dst (.int k m)) w) : wpList P ops Q (o :: rest) a w := by
  refine wpList_plain hgd fun K hK => ?_
  have e : m = if q > p then q else p := by subst hm; split <;> omega
  have hrun := run_max_int2 (P := P) (w := w) #[t, u] o.type k k' p q
  rw [← e] at hrun
  unfold Oper.wp
  simp [execOp, ho, resolve, invoke, builtin, hx, hy, hrun, Result.andThen]
  exact hK _ _ h
theorem wpList_min_to {P : Program} {w : World} {ops : Array Oper} {rest : List Oper} {o : Oper} {a : Act} {Q : Exit → Act → World → Prop} (hgd : o.guard = none) (x y : Operand) (t u : TypeId)
    (ho : o.op = .call { callee := .builtin .min, args := #[x, y], argTypes := #[t, u] }) (k k' : IntKind) (p q m : Int) (hx : a.eval x = .int k p) (hy : a.eval y = .int k' q) (hm : m = min p q)
    (h : wpList P ops Q rest (a.put o.dst (.int k m)) w) : wpList P ops Q (o :: rest) a w := by
  refine wpList_plain hgd fun K hK => ?_
  have e : m = if q < p then q else p := by subst hm; split <;> omega
  have hrun := run_min_int2 (P := P) (w := w) #[t, u] o.type k k' p q
  rw [← e] at hrun
  unfold Oper.wp
  simp [execOp, ho, resolve, invoke, builtin, hx, hy, hrun, Result.andThen]
  exact hK _ _ h

/-- A guarded operation whose guard holds. -/
theorem wpList_unguard {P : Program} {w : World} {ops : Array Oper} {rest : List Oper} {o : Oper} {a : Act} {Q : Exit → Act → World → Prop} (hw : Region.wanted o (yielded ops a.tmps) = true)
    (h : wpList P ops Q ({ o with guard := none } :: rest) a w) : wpList P ops Q (o :: rest) a w := by
  unfold wpList at h ⊢
  rw [if_pos hw]
  rw [if_pos (show Region.wanted { o with guard := none } (yielded ops a.tmps) = true from rfl)] at h
  exact h
theorem own_max {w : World} {base : Nat} {e : TypeId} {g n cap : Nat} {vs : List Value} (h : w.ownsRow base e 1 (.slice (some ⟨g, 0, none⟩) n cap) n vs) : cap ≤ 9223372036854775807 := by
  rcases h.2 with ⟨hv, _⟩ | ⟨g', cap', cur, hv, _, _, _, hm, _⟩
  · cases hv
  · injection hv with _ _ hv; subst hv; simpa [maxLen] using hm

/-- A row stays where another one grows. -/
theorem own_off {w w' : World} {base : Nat} {e : TypeId} {g n cap g' : Nat} {vs : List Value} (h : w.ownsRow base e 1 (.slice (some ⟨g, 0, none⟩) n cap) n vs) (hg : w.grownBy w' (some g')) (hne : g ≠ g') : w'.ownsRow base e 1 (.slice (some ⟨g, 0, none⟩) n cap) n vs := by
  have hl := (own_cap h).2.1
  obtain ⟨h1, h2⟩ := h
  refine ⟨h1, ?_⟩
  rcases h2 with h2 | ⟨g1, cap1, cur, hv, hb, hh, r⟩
  · exact Or.inl h2
  · have hv' := hv
    injection hv' with hv' _ _
    injection hv' with hv'
    injection hv' with hv'
    subst hv'
    exact Or.inr ⟨g, cap1, cur, hv, hb, by rw [hg.block g hl (by simpa using hne)]; exact hh, r⟩
end Go.Proofs.Ytgpookphacdgoaa.W
