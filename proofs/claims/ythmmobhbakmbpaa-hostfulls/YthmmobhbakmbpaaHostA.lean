/- Contracts of package host: Hosts in memory; New, There, Up, Free, leave, Add, Drain, Fail, Take, Give. -/
import Derived.Test.YthmmobhbakmbpaaRows
import Derived.Test.YthmmobhbakmbpaaHostM
import Derived.BigRegion
namespace Go.Proofs.Ythmmobhbakmbpaa.W
open Go.RowKit

/-- Hosts' block. -/
structure Ho (w : World) (l : Nat) (H : Int → Option Ht) : Prop where
  hb : Hb H
  row : w.heap[l]? = some (.cells (hro H).toArray 55 (0, 0))
theorem Ho.lt {w : World} {l : Nat} {H : Int → Option Ht} (h : Ho w l H) : l < w.heap.size := lt_of_row h.row
theorem Ho.keep {w w' : World} {l B : Nat} {H : Int → Option Ht} (h : Ho w l H) (hb : Below B w w') (hl : l < B) : Ho w' l H := ⟨h.hb, by rw [hb.block l hl]; exact h.row⟩
theorem Ho.off {w w' : World} {l q : Nat} {H : Int → Option Ht} (h : Ho w l H) (hb : w.grownBy w' (some q)) (hl : l ≠ q) : Ho w' l H := ⟨h.hb, by rw [hb.block l h.lt (by simpa using hl)]; exact h.row⟩
theorem Ho.drewN {w : World} {l : Nat} {H : Int → Option Ht} (h : Ho w l H) (n : Nat) : Ho (w.drewN n) l H := ⟨h.hb, h.row⟩
theorem Ho.cell {w : World} {l : Nat} {H : Int → Option Ht} (h : Ho w l H) {j : Nat} (hj : j < 128) : w.cell? ⟨l, j, none⟩ = some (hcl H j) := cellL h.row j _ (hro_at H hj)
theorem Ho.c0 {w : World} {l : Nat} {H : Int → Option Ht} (h : Ho w l H) {f : Nat} (hf : f < 32) : w.cell? ⟨l, f * 4, none⟩ = some (.bool (H (f : Int)).isSome) := by rw [h.cell (by omega), hcl_0]
theorem Ho.c1 {w : World} {l : Nat} {H : Int → Option Ht} (h : Ho w l H) {f : Nat} (hf : f < 32) {d : Bool} {s u : Nat} (e : H (f : Int) = some (d, s, u)) : w.cell? ⟨l, f * 4 + 1, none⟩ = some (.bool d) := by rw [h.cell (by omega), hcl_1, e]; rfl
theorem Ho.c2 {w : World} {l : Nat} {H : Int → Option Ht} (h : Ho w l H) {f : Nat} (hf : f < 32) {d : Bool} {s u : Nat} (e : H (f : Int) = some (d, s, u)) : w.cell? ⟨l, f * 4 + 2, none⟩ = some (.int .i64 (s : Int)) := by rw [h.cell (by omega), hcl_2, e]; rfl
theorem Ho.c3 {w : World} {l : Nat} {H : Int → Option Ht} (h : Ho w l H) {f : Nat} (hf : f < 32) {d : Bool} {s u : Nat} (e : H (f : Int) = some (d, s, u)) : w.cell? ⟨l, f * 4 + 3, none⟩ = some (.int .i64 (u : Int)) := by rw [h.cell (by omega), hcl_3, e]; rfl
theorem sizeHt : (Try.prog.info? 52).map (·.size) = some 4 := by kernel_rfl
theorem built_ho : Try.prog.built 55 [] = some ((List.replicate 32 [Value.bool false, .bool false, .int .i64 0, .int .i64 0]).flatten).toArray := by kernel_rfl

/-- A host into its place. -/
theorem wpList_store_ht {w : World} {ops : Array Oper} {rest : List Oper} {o : Oper} {a : Act} {Q : Exit → Act → World → Prop} (hgd : o.guard = none) (x y : Operand) (ho : o.op = .store 52 x y)
    (l f : Nat) (v : Option Ht) (vs : List Value) (hvs : Hid (vs = hts v)) (hx : a.eval x = .pointer (some ⟨l, f * 4, none⟩)) (hy : a.eval y = .agg vs.toArray) (H : Int → Option Ht) (hg : Ho w l H) (hf : f < 32) (hb : Hb (updZ H (f : Int) v))
    (h : ∀ w', Hid (Ho w' l (updZ H (f : Int) v)) → w.grownBy w' (some l) → wpList Try.prog ops Q rest (a.put o.dst undef) w') : wpList Try.prog ops Q (o :: rest) a w := by
  rw [hvs.out] at hy
  refine wpList_store_part hgd _ x y ho l (f * 4) (hts v) hx hy _ _ hg.row (by rw [hro_len]; simp [hts]; omega) sizeHt (by simp [hts, Value.oneCell']) ?_
  intro w' HG hgr
  exact h w' (Lib.hid ⟨hb, by rw [HG.out, hro_host H v hf]⟩) hgr

set_option maxRecDepth 100000 in
set_option maxHeartbeats 800000 in
theorem h_new (w : World) : Calls Try.prog 20 #[] w fun e w' => e = .returned (.pointer (some ⟨w.heap.size, 0, none⟩)) ∧ Ho w' w.heap.size (fun _ => none) ∧ Below w.heap.size w w' := by
  go_enter Try.func20, Try.ntmps20
  have hb := built_ho
  rw [← hro_zero] at hb
  obtain ⟨C, hC⟩ : ∃ C, (hro (fun _ => none)).toArray = C := ⟨_, rfl⟩
  rw [hC] at hb
  have HC := Lib.hid hC
  have HB := Lib.hid hb
  clear hC hb
  go_wp2_with (first
    | (with_reducible refine wpList_build_none rfl 55 rfl C HB.out ?_)
    | (with_reducible refine wpList_box_row rfl 55 (.tmp 1) rfl C rfl ?_))
  go_ret
  refine ⟨rfl, ⟨Hb.zero, ?_⟩, (Below.refl _ _).alloc (Nat.le_refl _) _⟩
  rw [heap_alloc_new, ← HC.out]

set_option maxRecDepth 100000 in
set_option maxHeartbeats 800000 in
theorem isH_any (x : Int) (w : World) : Calls Try.prog 31 #[.int .i64 x] w fun e w' => e = .returned (.bool (isH x)) ∧ w = w' := by
  by_cases h : 0 ≤ x
  · have d : decide (0 ≤ x) = true := decide_eq_true h
    have r : isH x = decide (x < 32) := by unfold isH; rw [d]; rfl
    rw [r]
    clear r h
    go_enter Try.func31, Try.ntmps31
    go_wp2
    go_ret
    exact ⟨rfl, rfl⟩
  · have d : decide (0 ≤ x) = false := dec_f h
    have r : isH x = false := by unfold isH; rw [d]; rfl
    rw [r]
    clear r h
    go_enter Try.func31, Try.ntmps31
    go_wp2
    go_ret
    exact ⟨rfl, rfl⟩

set_option maxRecDepth 100000 in
set_option maxHeartbeats 800000 in
theorem h_there (l : Nat) (H : Int → Option Ht) (x : Int) (w : World) (h : Ho w l H) : Calls Try.prog 28 #[.pointer (some ⟨l, 0, none⟩), .int .i64 x] w fun e w' => e = .returned (.bool (H x).isSome) ∧ w = w' := by
  cases hx : isH x with
  | true =>
    obtain ⟨f, rfl, hf⟩ := isH_nat hx
    have c := h.c0 hf
    obtain ⟨v, hv⟩ : ∃ v, (H (f : Int)).isSome = v := ⟨_, rfl⟩
    rw [hv] at c
    rw [hv]
    have hfi : (f : Int) < 32 := by omega
    have HX := Lib.hid hx
    clear hv hx h
    go_enter Try.func28, Try.ntmps28
    go_wp2_with fail
    refine (isH_any _ _).mono ?_
    rintro e w' ⟨rfl, rfl⟩
    rw [HX.out]
    go_wp2
    go_ret
    exact ⟨rfl, rfl⟩
  | false =>
    rw [h.hb.no hx]
    have HX := Lib.hid hx
    clear hx h
    go_enter Try.func28, Try.ntmps28
    go_wp2_with fail
    refine (isH_any _ _).mono ?_
    rintro e w' ⟨rfl, rfl⟩
    rw [HX.out]
    go_wp2
    go_ret
    exact ⟨rfl, rfl⟩

set_option maxRecDepth 100000 in
set_option maxHeartbeats 800000 in
theorem h_up (l : Nat) (H : Int → Option Ht) (x : Int) (w : World) (h : Ho w l H) : Calls Try.prog 25 #[.pointer (some ⟨l, 0, none⟩), .int .i64 x] w fun e w' => e = .returned (.bool (upB H x)) ∧ w = w' := by
  cases hx : H x with
  | none =>
    rw [show upB H x = false by unfold upB; rw [hx]]
    have HX := Lib.hid hx
    clear hx
    go_enter Try.func25, Try.ntmps25
    go_wp2_with fail
    refine (h_there l H x _ h).mono ?_
    rintro e w' ⟨rfl, rfl⟩
    rw [HX.out]
    simp only [Option.isSome]
    go_wp2
    go_ret
    exact ⟨rfl, rfl⟩
  | some v =>
    obtain ⟨d, s, u⟩ := v
    rw [show upB H x = !d by unfold upB; rw [hx]]
    obtain ⟨f, rfl, hf⟩ := h.hb.nat hx
    have c := h.c1 hf hx
    have hfi : (f : Int) < 32 := by omega
    have HX := Lib.hid hx
    clear hx
    go_enter Try.func25, Try.ntmps25
    go_wp2_with fail
    refine (h_there l H (f : Int) _ h).mono ?_
    rintro e w' ⟨rfl, rfl⟩
    rw [HX.out]
    simp only [Option.isSome]
    go_wp2
    go_ret
    exact ⟨rfl, rfl⟩

set_option maxRecDepth 100000 in
set_option maxHeartbeats 800000 in
theorem h_free (l : Nat) (H : Int → Option Ht) (x : Int) (w : World) (h : Ho w l H) : Calls Try.prog 23 #[.pointer (some ⟨l, 0, none⟩), .int .i64 x] w fun e w' => e = .returned (.int .i64 (fr H x)) ∧ ∃ m, w' = w.drewN m := by
  cases hx : H x with
  | none =>
    rw [show fr H x = 0 by unfold fr; rw [hx]]
    have HX := Lib.hid hx
    clear hx
    go_enter Try.func23, Try.ntmps23
    go_wp2_with fail
    refine (h_there l H x _ h).mono ?_
    rintro e w' ⟨rfl, rfl⟩
    rw [HX.out]
    simp only [Option.isSome]
    go_wp2
    go_ret
    exact ⟨rfl, 0, rfl⟩
  | some v =>
    obtain ⟨d, s, u⟩ := v
    rw [show fr H x = (s : Int) - (u : Int) by unfold fr; rw [hx]]
    have hbd := h.hb x d s u hx
    obtain ⟨f, rfl, hf⟩ := h.hb.nat hx
    have c2 := h.c2 hf hx
    have c3 := h.c3 hf hx
    have hfi : (f : Int) < 32 := by omega
    have hw : IntKind.i64.wrap ((s : Int) - (u : Int)) = (s : Int) - (u : Int) := by rw [IntKind.wrap_i64]; omega
    have HX := Lib.hid hx
    clear hx hbd
    go_enter Try.func23, Try.ntmps23
    go_wp2_with fail
    refine (h_there l H (f : Int) _ h).mono ?_
    rintro e w' ⟨rfl, rfl⟩
    rw [HX.out]
    simp only [Option.isSome]
    go_wp2_with fail
    go_quiet (fail)
    go_wp2_with fail
    go_ret
    exact ⟨rfl, _, rfl⟩

end Go.Proofs.Ythmmobhbakmbpaa.W
