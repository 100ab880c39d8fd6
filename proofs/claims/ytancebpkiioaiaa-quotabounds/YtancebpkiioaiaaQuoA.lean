/- Contracts of package quota: a Ledger in memory; New, has, Busy. -/
import Derived.Test.YtancebpkiioaiaaRows
import Derived.Test.YtancebpkiioaiaaQuoM
import Derived.BigRegion
namespace Go.Proofs.Ytancebpkiioaiaa.W
open Go.RowKit

/-- A struct that was just reckoned, into a block of its own. -/
theorem wpList_box_row {P : Program} {w : World} {ops : Array Oper} {rest : List Oper} {o : Oper} {a : Act} {Q : Exit → Act → World → Prop} (hgd : o.guard = none) (t : TypeId) (x : Operand) (ho : o.op = .box t x) (cs : Array Value) (hx : a.eval x = .agg cs)
    (h : wpList P ops Q rest (a.put o.dst (.pointer (some ⟨w.heap.size, 0, none⟩))) (w.alloc (.cells cs t))) : wpList P ops Q (o :: rest) a w := by
  refine wpList_plain hgd fun K hK => ?_
  have hrun : (Instr.box t (.agg cs)).run P w = .ok (.pointer (some ⟨w.heap.size, 0, none⟩)) (w.alloc (.cells cs t)) := by
    simp [Instr.box, newVar, newRow, Value.cells]
  unfold Oper.wp execOp
  simp only [ho, hx, hrun, Sem.run_bind, Sem.run_pure, Result.andThen]
  exact hK _ _ h

/-- A struct's zero. -/
theorem wpList_build_none {P : Program} {w : World} {ops : Array Oper} {rest : List Oper} {o : Oper} {a : Act} {Q : Exit → Act → World → Prop} (hgd : o.guard = none) (t : TypeId) (ho : o.op = .build t #[]) (cs : Array Value) (hb : P.built t [] = some cs)
    (h : wpList P ops Q rest (a.put o.dst (.agg cs)) w) : wpList P ops Q (o :: rest) a w := by
  refine wpList_plain hgd fun K hK => ?_
  have hrun := run_build (P := P) w t #[] cs hb
  unfold Oper.wp execOp
  simp only [ho, List.map_toArray, List.map_nil, hrun, Sem.run_bind, Sem.run_pure, Result.andThen]
  exact hK _ _ h

/-- A struct of an array by value. -/
theorem wpList_index_row {P : Program} {ops : Array Oper} {rest : List Oper} {o : Oper} {a : Act} {w : World} {Q : Exit → Act → World → Prop} (hgd : o.guard = none) (ty : TypeId) (x ix : Operand) (ho : o.op = .index ty x ix)
    (n : Nat) (e : TypeId) (hu : P.underlying ty = some (.array n e)) (d : TypeDesc) (hue : P.underlying e = some d) (hd : d.isRow = true) (z : Nat) (hsz : (P.info? e).map (·.size) = some z)
    (cs : List Value) (hx : a.eval x = .agg cs.toArray) (k : IntKind) (i : Nat) (hi : a.eval ix = .int k (i : Int)) (hin : i < n) (vs : Array Value) (hv : cs.toArray.extract (i * z) (i * z + z) = vs)
    (h : wpList P ops Q rest (a.put o.dst (.agg vs)) w) : wpList P ops Q (o :: rest) a w := by
  refine wpList_plain hgd fun K hK => ?_
  cases hq : P.info? e with
  | none => simp [hq] at hsz
  | some ie =>
    have hs : ie.size = z := by simpa [hq] using hsz
    have hagg : (isAgg e).run P w = .ok true w := by
      unfold isAgg
      rw [Sem.run_bind, run_underlying hue w]
      cases d <;> simp_all
    have hrun : (Instr.index ty (.agg cs.toArray) (.int k (i : Int))).run P w = .ok (.agg vs) w := by
      rw [← hv]
      simp [Instr.index, asIntOf, run_underlying hu, sizeOf, typeInfo, hq, hs, part, hagg]
      omega
    unfold Oper.wp execOp
    simp only [ho, hx, hi, hrun, Sem.run_bind, Sem.run_pure, Result.andThen]
    exact hK _ _ h

/-- The cells of a ledger. -/
def lc (A : Int → Option Nat) (F : Int → Option Fn) (j : Nat) : Value :=
  if j < 32 then (if j % 2 = 0 then .bool (A ((j / 2 : Nat) : Int)).isSome else .int .i64 (((A ((j / 2 : Nat) : Int)).getD 0 : Nat) : Int))
  else if (j - 32) % 4 = 0 then .bool (F (((j - 32) / 4 : Nat) : Int)).isSome
  else if (j - 32) % 4 = 1 then .int .i64 ((((F (((j - 32) / 4 : Nat) : Int)).getD (0, 0, 0)).1 : Nat) : Int)
  else if (j - 32) % 4 = 2 then .int .i64 ((((F (((j - 32) / 4 : Nat) : Int)).getD (0, 0, 0)).2.1 : Nat) : Int)
  else .int .i64 ((((F (((j - 32) / 4 : Nat) : Int)).getD (0, 0, 0)).2.2 : Nat) : Int)
theorem lc_a0 (A : Int → Option Nat) (F : Int → Option Fn) {a : Nat} (h : a < 16) : lc A F (a * 2) = .bool (A (a : Int)).isSome := by
  unfold lc; rw [if_pos (by omega), if_pos (by omega), show a * 2 / 2 = a by omega]
theorem lc_a1 (A : Int → Option Nat) (F : Int → Option Fn) {a : Nat} (h : a < 16) : lc A F (a * 2 + 1) = .int .i64 (((A (a : Int)).getD 0 : Nat) : Int) := by
  unfold lc; rw [if_pos (by omega), if_neg (by omega), show (a * 2 + 1) / 2 = a by omega]
theorem lc_f0 (A : Int → Option Nat) (F : Int → Option Fn) (f : Nat) : lc A F (32 + f * 4) = .bool (F (f : Int)).isSome := by
  unfold lc; rw [if_neg (by omega), if_pos (by omega), show (32 + f * 4 - 32) / 4 = f by omega]
theorem lc_f1 (A : Int → Option Nat) (F : Int → Option Fn) (f : Nat) : lc A F (32 + f * 4 + 1) = .int .i64 ((((F (f : Int)).getD (0, 0, 0)).1 : Nat) : Int) := by
  unfold lc; rw [if_neg (by omega), if_neg (by omega), if_pos (by omega), show (32 + f * 4 + 1 - 32) / 4 = f by omega]
theorem lc_f2 (A : Int → Option Nat) (F : Int → Option Fn) (f : Nat) : lc A F (32 + f * 4 + 2) = .int .i64 ((((F (f : Int)).getD (0, 0, 0)).2.1 : Nat) : Int) := by
  unfold lc; rw [if_neg (by omega), if_neg (by omega), if_neg (by omega), if_pos (by omega), show (32 + f * 4 + 2 - 32) / 4 = f by omega]
theorem lc_f3 (A : Int → Option Nat) (F : Int → Option Fn) (f : Nat) : lc A F (32 + f * 4 + 3) = .int .i64 ((((F (f : Int)).getD (0, 0, 0)).2.2 : Nat) : Int) := by
  unfold lc; rw [if_neg (by omega), if_neg (by omega), if_neg (by omega), if_neg (by omega), show (32 + f * 4 + 3 - 32) / 4 = f by omega]
def lrow (A : Int → Option Nat) (F : Int → Option Fn) : List Value := (List.range 288).map (lc A F)
theorem lrow_len (A : Int → Option Nat) (F : Int → Option Fn) : (lrow A F).length = 288 := by simp [lrow]
theorem lrow_at (A : Int → Option Nat) (F : Int → Option Fn) {j : Nat} (h : j < 288) : (lrow A F)[j]? = some (lc A F j) := by
  unfold lrow; rw [List.getElem?_map, List.getElem?_range h]; rfl
theorem lrow_zero : lrow (fun _ => none) (fun _ => none) = (List.replicate 16 [Value.bool false, .int .i64 0]).flatten ++ (List.replicate 64 [Value.bool false, .int .i64 0, .int .i64 0, .int .i64 0]).flatten := by kernel_rfl

/-- A ledger's block. -/
structure Lg (w : World) (l : Nat) (A : Int → Option Nat) (F : Int → Option Fn) : Prop where
  ab : Ab A F
  row : w.heap[l]? = some (.cells (lrow A F).toArray 76 (0, 0))
theorem Lg.lt {w : World} {l : Nat} {A : Int → Option Nat} {F : Int → Option Fn} (h : Lg w l A F) : l < w.heap.size := lt_of_row h.row
theorem Lg.keep {w w' : World} {l B : Nat} {A : Int → Option Nat} {F : Int → Option Fn} (h : Lg w l A F) (hb : Below B w w') (hl : l < B) : Lg w' l A F := ⟨h.ab, by rw [hb.block l hl]; exact h.row⟩
theorem Lg.off {w w' : World} {l q : Nat} {A : Int → Option Nat} {F : Int → Option Fn} (h : Lg w l A F) (hb : w.grownBy w' (some q)) (hl : l ≠ q) : Lg w' l A F := ⟨h.ab, by rw [hb.block l h.lt (by simpa using hl)]; exact h.row⟩
theorem Lg.drewN {w : World} {l : Nat} {A : Int → Option Nat} {F : Int → Option Fn} (h : Lg w l A F) (n : Nat) : Lg (w.drewN n) l A F := ⟨h.ab, h.row⟩
theorem Lg.cell {w : World} {l : Nat} {A : Int → Option Nat} {F : Int → Option Fn} (h : Lg w l A F) {j : Nat} (hj : j < 288) : w.cell? ⟨l, j, none⟩ = some (lc A F j) := cellL h.row j _ (lrow_at A F hj)
theorem Lg.a0 {w : World} {l : Nat} {A : Int → Option Nat} {F : Int → Option Fn} (h : Lg w l A F) {a : Nat} (ha : a < 16) : w.cell? ⟨l, a * 2, none⟩ = some (.bool (A (a : Int)).isSome) := by rw [h.cell (by omega), lc_a0 A F ha]
theorem Lg.a1 {w : World} {l : Nat} {A : Int → Option Nat} {F : Int → Option Fn} (h : Lg w l A F) {a : Nat} (ha : a < 16) : w.cell? ⟨l, a * 2 + 1, none⟩ = some (.int .i64 (((A (a : Int)).getD 0 : Nat) : Int)) := by rw [h.cell (by omega), lc_a1 A F ha]
theorem Lg.f0 {w : World} {l : Nat} {A : Int → Option Nat} {F : Int → Option Fn} (h : Lg w l A F) {f : Nat} (hf : f < 64) : w.cell? ⟨l, 32 + f * 4, none⟩ = some (.bool (F (f : Int)).isSome) := by rw [h.cell (by omega), lc_f0]
theorem Lg.f1 {w : World} {l : Nat} {A : Int → Option Nat} {F : Int → Option Fn} (h : Lg w l A F) {f : Nat} (hf : f < 64) : w.cell? ⟨l, 32 + f * 4 + 1, none⟩ = some (.int .i64 ((((F (f : Int)).getD (0, 0, 0)).1 : Nat) : Int)) := by rw [h.cell (by omega), lc_f1]
theorem Lg.f2 {w : World} {l : Nat} {A : Int → Option Nat} {F : Int → Option Fn} (h : Lg w l A F) {f : Nat} (hf : f < 64) : w.cell? ⟨l, 32 + f * 4 + 2, none⟩ = some (.int .i64 ((((F (f : Int)).getD (0, 0, 0)).2.1 : Nat) : Int)) := by rw [h.cell (by omega), lc_f2]
theorem Lg.f3 {w : World} {l : Nat} {A : Int → Option Nat} {F : Int → Option Fn} (h : Lg w l A F) {f : Nat} (hf : f < 64) : w.cell? ⟨l, 32 + f * 4 + 3, none⟩ = some (.int .i64 ((((F (f : Int)).getD (0, 0, 0)).2.2 : Nat) : Int)) := by rw [h.cell (by omega), lc_f3]

theorem built_led : Try.prog.built 76 [] = some ((List.replicate 16 [Value.bool false, .int .i64 0]).flatten ++ (List.replicate 64 [Value.bool false, .int .i64 0, .int .i64 0, .int .i64 0]).flatten).toArray := by kernel_rfl

set_option maxRecDepth 100000 in
set_option maxHeartbeats 800000 in
theorem l_new (w : World) : Calls Try.prog 20 #[] w fun e w' => e = .returned (.pointer (some ⟨w.heap.size, 0, none⟩)) ∧ Lg w' w.heap.size (fun _ => none) (fun _ => none) ∧ Below w.heap.size w w' := by
  go_enter Try.func20, Try.ntmps20
  have hb := built_led
  rw [← lrow_zero] at hb
  obtain ⟨C, hC⟩ : ∃ C, (lrow (fun _ => none) (fun _ => none)).toArray = C := ⟨_, rfl⟩
  rw [hC] at hb
  have HC := Lib.hid hC
  have HB := Lib.hid hb
  clear hC hb
  go_wp2_with (first
    | (with_reducible refine wpList_build_none rfl 76 rfl C HB.out ?_)
    | (with_reducible refine wpList_box_row rfl 76 (.tmp 1) rfl C rfl ?_))
  go_ret
  refine ⟨rfl, ⟨Ab.zero, ?_⟩, (Below.refl _ _).alloc (Nat.le_refl _) _⟩
  rw [heap_alloc_new, ← HC.out]

theorem dec_f {p : Prop} [Decidable p] (h : ¬ p) : decide p = false := decide_eq_false h

set_option maxRecDepth 100000 in
set_option maxHeartbeats 800000 in
theorem isA_any (x : Int) (w : World) : Calls Try.prog 35 #[.int .i64 x] w fun e w' => e = .returned (.bool (isA x)) ∧ w = w' := by
  by_cases h : 0 ≤ x
  · have d : decide (0 ≤ x) = true := decide_eq_true h
    have r : isA x = decide (x < 16) := by unfold isA; rw [d]; rfl
    rw [r]
    clear r h
    go_enter Try.func35, Try.ntmps35
    go_wp2
    go_ret
    exact ⟨rfl, rfl⟩
  · have d : decide (0 ≤ x) = false := dec_f h
    have r : isA x = false := by unfold isA; rw [d]; rfl
    rw [r]
    clear r h
    go_enter Try.func35, Try.ntmps35
    go_wp2
    go_ret
    exact ⟨rfl, rfl⟩

set_option maxRecDepth 100000 in
set_option maxHeartbeats 800000 in
theorem isF_any (x : Int) (w : World) : Calls Try.prog 38 #[.int .i64 x] w fun e w' => e = .returned (.bool (isF x)) ∧ w = w' := by
  by_cases h : 0 ≤ x
  · have d : decide (0 ≤ x) = true := decide_eq_true h
    have r : isF x = decide (x < 64) := by unfold isF; rw [d]; rfl
    rw [r]
    clear r h
    go_enter Try.func38, Try.ntmps38
    go_wp2
    go_ret
    exact ⟨rfl, rfl⟩
  · have d : decide (0 ≤ x) = false := dec_f h
    have r : isF x = false := by unfold isF; rw [d]; rfl
    rw [r]
    clear r h
    go_enter Try.func38, Try.ntmps38
    go_wp2
    go_ret
    exact ⟨rfl, rfl⟩

set_option maxRecDepth 100000 in
set_option maxHeartbeats 800000 in
theorem isC_any (x : Int) (w : World) : Calls Try.prog 36 #[.int .i64 x] w fun e w' => e = .returned (.bool (isC x)) ∧ w = w' := by
  by_cases h : 0 ≤ x
  · have d : decide (0 ≤ x) = true := decide_eq_true h
    have r : isC x = decide (x ≤ 1000) := by unfold isC; rw [d]; rfl
    rw [r]
    clear r h
    go_enter Try.func36, Try.ntmps36
    go_wp2
    go_ret
    exact ⟨rfl, rfl⟩
  · have d : decide (0 ≤ x) = false := dec_f h
    have r : isC x = false := by unfold isC; rw [d]; rfl
    rw [r]
    clear r h
    go_enter Try.func36, Try.ntmps36
    go_wp2
    go_ret
    exact ⟨rfl, rfl⟩

set_option maxRecDepth 100000 in
set_option maxHeartbeats 800000 in
theorem l_has (l : Nat) (A : Int → Option Nat) (F : Int → Option Fn) (x : Int) (w : World) (h : Lg w l A F) : Calls Try.prog 39 #[.pointer (some ⟨l, 0, none⟩), .int .i64 x] w fun e w' => e = .returned (.bool (F x).isSome) ∧ w = w' := by
  cases hx : isF x with
  | true =>
    obtain ⟨f, rfl, hf⟩ := isF_nat hx
    have c := h.f0 hf
    obtain ⟨v, hv⟩ : ∃ v, (F (f : Int)).isSome = v := ⟨_, rfl⟩
    rw [hv] at c
    rw [hv]
    have hfi : (f : Int) < 64 := by omega
    have HX := Lib.hid hx
    clear hv hx h
    go_enter Try.func39, Try.ntmps39
    go_wp2_with fail
    refine (isF_any _ _).mono ?_
    rintro e w' ⟨rfl, rfl⟩
    rw [HX.out]
    go_wp2
    go_ret
    exact ⟨rfl, rfl⟩
  | false =>
    rw [h.ab.noF hx]
    have HX := Lib.hid hx
    clear hx h
    go_enter Try.func39, Try.ntmps39
    go_wp2_with fail
    refine (isF_any _ _).mono ?_
    rintro e w' ⟨rfl, rfl⟩
    rw [HX.out]
    go_wp2
    go_ret
    exact ⟨rfl, rfl⟩

set_option maxRecDepth 100000 in
set_option maxHeartbeats 800000 in
theorem l_busy (l : Nat) (A : Int → Option Nat) (F : Int → Option Fn) (x : Int) (w : World) (h : Lg w l A F) : Calls Try.prog 33 #[.pointer (some ⟨l, 0, none⟩), .int .i64 x] w fun e w' => e = .returned (.int .i64 (busy F x : Int)) ∧ w = w' := by
  have H := Lib.hid h
  cases hx : F x with
  | some v =>
    obtain ⟨o, r, b⟩ := v
    have hb := h.ab.f0 _ _ _ _ hx
    obtain ⟨f, rfl⟩ : ∃ f : Nat, x = (f : Int) := ⟨x.toNat, by omega⟩
    have c := h.f3 (f := f) (by omega)
    have e1 : busy F (f : Int) = b := by unfold busy; rw [hx]; rfl
    rw [hx] at c
    rw [e1]
    have c' : w.cell? ⟨l, 32 + f * 4 + 3, none⟩ = some (.int .i64 (b : Int)) := c
    have hfi : (f : Int) < 64 := by omega
    have HX := Lib.hid hx
    clear hx h c hb e1
    go_enter Try.func33, Try.ntmps33
    go_wp2_with fail
    refine (l_has l A F _ _ H.out).mono ?_
    rintro e w' ⟨rfl, rfl⟩
    rw [HX.out]
    go_wp2
    go_ret
    exact ⟨rfl, rfl⟩
  | none =>
    have e1 : busy F x = 0 := by unfold busy; rw [hx]; rfl
    rw [e1]
    have HX := Lib.hid hx
    clear hx h e1
    go_enter Try.func33, Try.ntmps33
    go_wp2_with fail
    refine (l_has l A F _ _ H.out).mono ?_
    rintro e w' ⟨rfl, rfl⟩
    rw [HX.out]
    go_wp2
    go_ret
    exact ⟨rfl, rfl⟩

end Go.Proofs.Ytancebpkiioaiaa.W
