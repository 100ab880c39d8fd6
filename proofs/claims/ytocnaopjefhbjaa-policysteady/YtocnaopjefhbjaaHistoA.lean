/- Contracts of package histo: New, In, Over, Bin, Add below the most. -/
import Derived.Test.YtocnaopjefhbjaaRows
import Derived.Test.YtocnaopjefhbjaaHistoM
namespace Go.Proofs.Ytocnaopjefhbjaa.W
open Go.RowKit

theorem infoInt : (Try.prog.info? 3).map (fun i => (i.zero, i.size, i.bytes)) = some (some (.int .i64 0), 1, 8) := by kernel_rfl
theorem sizeInt : (Try.prog.info? 3).map (·.size) = some 1 := by kernel_rfl
theorem sizeRow : (Try.prog.info? 29).map (·.size) = some 240 := by kernel_rfl

/-- A struct that was just reckoned, into a block of its own. -/
theorem wpList_box_agg {P : Program} {w : World} {ops : Array Oper} {rest : List Oper} {o : Oper} {a : Act} {Q : Exit → Act → World → Prop} (hgd : o.guard = none) (t : TypeId) (x : Operand) (ho : o.op = .box t x) (cs : Array Value) (hx : a.eval x = .agg cs)
    (h : wpList P ops Q rest (a.put o.dst (.pointer (some ⟨w.heap.size, 0, none⟩))) (w.alloc (.cells cs t))) : wpList P ops Q (o :: rest) a w := by
  refine wpList_plain hgd fun K hK => ?_
  have hrun : (Instr.box t (.agg cs)).run P w = .ok (.pointer (some ⟨w.heap.size, 0, none⟩)) (w.alloc (.cells cs t)) := by
    simp [Instr.box, newVar, newRow, Value.cells]
  unfold Oper.wp execOp
  simp only [ho, hx, hrun, Sem.run_bind, Sem.run_pure, Result.andThen]
  exact hK _ _ h

/-- A struct's zero. -/
theorem wpList_build_zero {P : Program} {w : World} {ops : Array Oper} {rest : List Oper} {o : Oper} {a : Act} {Q : Exit → Act → World → Prop} (hgd : o.guard = none) (t : TypeId) (ho : o.op = .build t #[]) (cs : Array Value) (hb : P.built t [] = some cs)
    (h : wpList P ops Q rest (a.put o.dst (.agg cs)) w) : wpList P ops Q (o :: rest) a w := by
  refine wpList_plain hgd fun K hK => ?_
  have hrun := run_build (P := P) w t #[] cs hb
  unfold Oper.wp execOp
  simp only [ho, List.map_toArray, List.map_nil, hrun, Sem.run_bind, Sem.run_pure, Result.andThen]
  exact hK _ _ h

/-- A histogram's block: its counts, and how many were too long. -/
def Hs (w : World) (r : Nat) (F : Nat → Nat) (o : Nat) : Prop :=
  tot F + o < 4096 ∧ w.heap[r]? = some (.cells (bins F ++ [Value.int .i64 (tot F : Int), Value.int .i64 (o : Int)]).toArray 45 (0, 0))
theorem Hs.lt {w : World} {r o : Nat} {F : Nat → Nat} (h : Hs w r F o) : r < w.heap.size := lt_of_row h.2
theorem Hs.keep {w w' : World} {r o : Nat} {F : Nat → Nat} {B : Nat} (h : Hs w r F o) (hb : Below B w w') (hr : r < B) : Hs w' r F o := ⟨h.1, by rw [hb.block r hr]; exact h.2⟩
theorem Hs.off {w w' : World} {r q o : Nat} {F : Nat → Nat} (h : Hs w r F o) (hb : w.grownBy w' (some q)) (hr : r ≠ q) : Hs w' r F o :=
  ⟨h.1, by rw [hb.block r h.lt (by simpa using hr)]; exact h.2⟩
theorem Hs.drewN {w : World} {r o : Nat} {F : Nat → Nat} (h : Hs w r F o) (n : Nat) : Hs (w.drewN n) r F o := h
theorem two_at (F : Nat → Nat) (u v : Value) : (bins F ++ [u, v])[240]? = some u ∧ (bins F ++ [u, v])[241]? = some v := by
  constructor
  · rw [List.getElem?_append_right (by rw [bins_len]; exact Nat.le_refl _), bins_len]; rfl
  · rw [List.getElem?_append_right (by rw [bins_len]; omega), bins_len]; rfl
theorem Hs.cellIn {w : World} {r o : Nat} {F : Nat → Nat} (h : Hs w r F o) : w.cell? ⟨r, 240, none⟩ = some (.int .i64 (tot F : Int)) := cellL h.2 240 _ (two_at F _ _).1
theorem Hs.cellOver {w : World} {r o : Nat} {F : Nat → Nat} (h : Hs w r F o) : w.cell? ⟨r, 241, none⟩ = some (.int .i64 (o : Int)) := cellL h.2 241 _ (two_at F _ _).2
theorem Hs.cellBin {w : World} {r o : Nat} {F : Nat → Nat} (h : Hs w r F o) {j : Nat} (hj : j < 240) : w.cell? ⟨r, j, none⟩ = some (.int .i64 (F j : Int)) :=
  cellL h.2 j _ (by rw [List.getElem?_append_left (by rw [bins_len]; exact hj)]; exact bins_at F hj)

theorem built_new : Try.prog.built 45 [] = some (List.replicate 242 (.int .i64 0)).toArray := by kernel_rfl

set_option maxRecDepth 100000 in
set_option maxHeartbeats 800000 in
theorem histo_new (w : World) : Calls Try.prog 9 #[] w fun e w' => e = .returned (.pointer (some ⟨w.heap.size, 0, none⟩)) ∧ Hs w' w.heap.size (fun _ => 0) 0 ∧ Below w.heap.size w w' := by
  go_enter Try.func9, Try.ntmps9
  have hz : (List.replicate 242 (Value.int .i64 0)) = bins (fun _ => 0) ++ [Value.int .i64 ((tot (fun _ => 0) : Nat) : Int), Value.int .i64 ((0 : Nat) : Int)] := by
    rw [bins_zero, tot, sumTo_zero]; rfl
  obtain ⟨C, hC⟩ : ∃ C, (List.replicate 242 (Value.int .i64 0)).toArray = C := ⟨_, rfl⟩
  have HC := Lib.hid hC
  have HZ := Lib.hid hz
  clear hC hz
  go_wp2_with (first
    | (with_reducible refine wpList_build_zero rfl 45 rfl C (by rw [← HC.out]; exact built_new) ?_)
    | (with_reducible refine wpList_box_agg rfl 45 (.tmp 1) rfl C rfl ?_))
  go_ret
  refine ⟨rfl, ⟨by rw [tot, sumTo_zero]; omega, ?_⟩, (Below.refl _ _).alloc (Nat.le_refl _) _⟩
  rw [heap_alloc_new, ← HC.out, HZ.out]

set_option maxRecDepth 100000 in
set_option maxHeartbeats 800000 in
theorem histo_in (r o : Nat) (F : Nat → Nat) (w : World) (h : Hs w r F o) :
    Calls Try.prog 18 #[.pointer (some ⟨r, 0, none⟩)] w fun e w' => e = .returned (.int .i64 (tot F : Int)) ∧ w = w' := by
  have h3 := h.cellIn
  have H := Lib.hid h
  clear h
  go_enter Try.func18, Try.ntmps18
  go_wp2
  go_ret
  exact ⟨rfl, rfl⟩

set_option maxRecDepth 100000 in
set_option maxHeartbeats 800000 in
theorem histo_over (r o : Nat) (F : Nat → Nat) (w : World) (h : Hs w r F o) :
    Calls Try.prog 17 #[.pointer (some ⟨r, 0, none⟩)] w fun e w' => e = .returned (.int .i64 (o : Int)) ∧ w = w' := by
  have h3 := h.cellOver
  have H := Lib.hid h
  clear h
  go_enter Try.func17, Try.ntmps17
  go_wp2
  go_ret
  exact ⟨rfl, rfl⟩
end Go.Proofs.Ytocnaopjefhbjaa.W
