/- A heap of ints in memory: Get, Min; the orders. -/
import Derived.Test.YtpagleilaaljoaaHpIG
namespace Go.Proofs.Ytpagleilaaljoaa.W.HI
open Go.RowKit

set_option maxRecDepth 100000 in
set_option maxHeartbeats 800000 in
theorem get_some (r : Nat) (Fv : Value) (n : Nat) (A : Int → Option V) (X : Nat → Prop) (w : World) (h : Ob w r Fv n A X) (k : Int) (hk : (KL k).wf = true) (v : Int) (hv : A k = some v) (hn : n < 1073741824) :
    Calls Try.prog 19 #[.pointer (some ⟨r, 0, none⟩), .int .i64 k] w fun e w' => e = .returned (.tuple #[.int .i64 v, .bool true]) ∧ w = w' := by
  obtain ⟨G, B, sv, T, M, h, h1, h2, h3, h4⟩ := h
  cases hM : M k with
  | none => rw [h.full.isnone hM] at hv; cases hv
  | some i =>
    obtain ⟨hin, hA, hkey⟩ := h.full.get hM
    rw [hv] at hA
    injection hA with hA
    obtain ⟨g, cap, hG, rfl, hrow⟩ := h.its.some_ (by omega)
    obtain ⟨b, hB, hmp⟩ : ∃ b, B = some b ∧ Mp Try.prog 3 w b (fun k => (M k).map (fun j : Nat => Value.int .i64 (j : Int))) n := by
      rcases h.mp with ⟨_, _, q⟩ | q
      · rw [q k] at hM; cases hM
      · exact q
    subst hB
    have c1 := cell_of_row _ _ 1 _ _ _ h.blk
    have c2 := cell_of_row _ _ 2 _ _ _ h.blk
    have x1 : w.cell? ⟨g, i * 2 + 1, none⟩ = some (.int .i64 v) := hrow.cell (c := 1) hin (by rw [hA]; rfl) rfl
    have hini : (i : Int) < (n : Int) := by omega
    have HM := Lib.hid hM
    clear hM hv hA
    go_enter Try.func19, Try.ntmps19
    go_wp2_with (at_lookup; refine wpList_mp_some rfl (.tmp 13) (.tmp 14) 27 rfl 3 3 Try.underlying3 Try.underlying27 (zeroI _) b _ n rfl hmp k rfl hk (.int .i64 (i : Int)) (by simp [HM.out]) ?_)
    go_ret2
    exact ⟨rfl, rfl⟩

set_option maxRecDepth 100000 in
set_option maxHeartbeats 800000 in
theorem get_none (r : Nat) (Fv : Value) (n : Nat) (A : Int → Option V) (X : Nat → Prop) (w : World) (h : Ob w r Fv n A X) (k : Int) (hk : (KL k).wf = true) (hv : A k = none) :
    Calls Try.prog 19 #[.pointer (some ⟨r, 0, none⟩), .int .i64 k] w fun e w' => e = .returned (.tuple #[.int .i64 0, .bool false]) ∧ w = w' := by
  obtain ⟨G, B, sv, T, M, h, h1, h2, h3, h4⟩ := h
  have c2 := cell_of_row _ _ 2 _ _ _ h.blk
  have hM : M k = none := by
    cases q : M k with
    | none => rfl
    | some i => rw [(h.full.get q).2.1] at hv; cases hv
  have HM := Lib.hid hM
  clear hM hv
  rcases h.mp with ⟨hB, _⟩ | ⟨b, hB, hmp⟩
  · subst hB
    go_enter Try.func19, Try.ntmps19
    go_wp2_with (at_lookup; refine wpList_nilmap_ok rfl (.tmp 13) (.tmp 14) 27 rfl 3 3 Try.underlying3 Try.underlying27 (zeroI _) rfl k rfl hk ?_)
    go_ret2
    exact ⟨rfl, rfl⟩
  · subst hB
    go_enter Try.func19, Try.ntmps19
    go_wp2_with (at_lookup; refine wpList_mp_none rfl (.tmp 13) (.tmp 14) 27 rfl 3 3 Try.underlying3 Try.underlying27 (zeroI _) b _ n rfl hmp k rfl hk (by simp [HM.out]) ?_)
    go_ret2
    exact ⟨rfl, rfl⟩

set_option maxRecDepth 100000 in
set_option maxHeartbeats 800000 in
theorem min_none (r : Nat) (Fv : Value) (A : Int → Option V) (X : Nat → Prop) (w : World) (h : Ob w r Fv 0 A X) :
    Calls Try.prog 16 #[.pointer (some ⟨r, 0, none⟩)] w fun e w' => e = .returned (.tuple #[.int .i64 0, .int .i64 0, .bool false]) ∧ Below w.heap.size w w' := by
  obtain ⟨G, B, sv, T, M, h, h1, h2, h3, h4⟩ := h
  have c1 := cell_of_row _ _ 1 _ _ _ h.blk
  obtain ⟨A1, cap, rfl, hc1, hc2⟩ := h.its.slice
  go_enter Try.func16, Try.ntmps16
  go_wp2
  go_quiet (fail)
  go_wp2
  go_ret3
  exact ⟨rfl, below_drewN ((Below.refl _ _).alloc (Nat.le_refl _) _) _⟩

set_option maxRecDepth 100000 in
set_option maxHeartbeats 800000 in
theorem min_some (r : Nat) (Fv : Value) (n : Nat) (A : Int → Option V) (X : Nat → Prop) (w : World) (h : Ob w r Fv n A X) (hn : 0 < n) (hn2 : n < 1073741824) :
    Calls Try.prog 16 #[.pointer (some ⟨r, 0, none⟩)] w fun e w' => ∃ k v : Int, e = .returned (.tuple #[.int .i64 k, .int .i64 v, .bool true]) ∧ A k = some v ∧ (∀ k' v', A k' = some v' → v ≤ v') ∧ Below w.heap.size w w' := by
  obtain ⟨G, B, sv, T, M, h, h1, h2, h3, h4⟩ := h
  have c1 := cell_of_row _ _ 1 _ _ _ h.blk
  obtain ⟨g, cap, hG, rfl, hrow⟩ := h.its.some_ hn
  obtain ⟨⟨k, v⟩, hT⟩ : ∃ x, T 0 = x := ⟨_, rfl⟩
  have hmin := h.full.mn odr hn
  rw [hT] at hmin
  have x0 : w.cell? ⟨g, 0, none⟩ = some (.int .i64 k) := hrow.cell (c := 0) hn (by rw [hT]; rfl) rfl
  have x1 : w.cell? ⟨g, 1, none⟩ = some (.int .i64 v) := hrow.cell (c := 1) hn (by rw [hT]; rfl) rfl
  have hn0 : (0 : Int) < (n : Int) := by omega
  have hnz : ((n : Int) == 0) = false := by simp; omega
  have HMN := Lib.hid hmin
  clear hmin hT
  go_enter Try.func16, Try.ntmps16
  go_wp2
  go_quiet (fail)
  go_wp2
  go_ret3
  refine ⟨k, v, rfl, HMN.out.1, fun k' v' q => ?_, below_drewN (Below.refl _ _) _⟩
  exact Int.not_lt.1 (of_decide_eq_false (HMN.out.2 k' v' q))

set_option maxRecDepth 100000 in
set_option maxHeartbeats 800000 in
theorem less14 (r : Nat) : Less r (.func (.func 14) #[] #[]) (fun _ => False) (fun _ _ => True) := by
  refine ⟨fun w m x y hc _ _ _ _ => ?_, fun _ _ _ _ _ _ _ => trivial⟩
  obtain ⟨bb, hbb⟩ : ∃ bb, lt x y = bb := ⟨_, rfl⟩
  have HB := Lib.hid hbb
  unfold lt at hbb
  have hfn := fun w => run_neq_func_nil (P := Try.prog) Try.underlying26 w (.func 14) #[] #[]
  go_enter Try.func50, Try.ntmps50
  go_wp2
  go_ret
  exact ⟨by rw [HB.out]; rfl, trivial, Only.refl _ _⟩

/-- The order that counts how often it is asked. -/
def Cnt (c : Nat) (n : Nat) (w : World) : Prop := w.heap[c]? = some (.cells #[.int .i64 (n : Int)] 42 (0, 0))
set_option maxRecDepth 100000 in
set_option maxHeartbeats 800000 in
theorem ask_any (c : Nat) (w : World) (m : Nat) (x y : Int) (hC : Cnt c m w) (hm : m < 4611686018427387904) :
    Calls Try.prog 20 #[.pointer (some ⟨c, 0, none⟩), .int .i64 x, .int .i64 y] w fun e w' => e = .returned (.bool (lt x y)) ∧ Cnt c (m + 1) w' ∧ Only w w' (fun j => j = c) := by
  obtain ⟨bb, hbb⟩ : ∃ bb, lt x y = bb := ⟨_, rfl⟩
  have HB := Lib.hid hbb
  unfold lt at hbb
  have HC : Hid (w.heap[c]? = some (.cells #[.int .i64 (m : Int)] 42 (0, 0))) := hC
  have c0 := cell_of_row _ _ 0 _ _ _ HC.out
  have hmi : (m : Int) < 4611686018427387904 := by omega
  clear hC
  go_enter Try.func20, Try.ntmps20
  go_wp2_with (with_reducible refine wpList_store_in rfl 3 (.tmp 13) (.tmp 11) rfl (by kernel_rfl) c 0 rfl .i64 _ rfl [.int .i64 (m : Int)] _ HC.out (Nat.zero_lt_succ _) ?_; intro w1 HG hg1; clear c0)
  go_ret
  refine ⟨by rw [HB.out]; rfl, ?_, Only.grown hg1 (Or.inl rfl)⟩
  have := HG.out
  simpa [Cnt] using this

set_option maxRecDepth 100000 in
set_option maxHeartbeats 800000 in
theorem less20 (r c : Nat) : Less r (.func (.func 20) #[.pointer (some ⟨c, 0, none⟩)] #[]) (fun j => j = c) (Cnt c) := by
  refine ⟨fun w m x y hc hC hm _ _ => ?_, fun w w' m S' h ho hd => ho.blk (hd c rfl) h⟩
  have hcall := ask_any c w m x y hC hm
  obtain ⟨bb, hbb⟩ : ∃ bb, lt x y = bb := ⟨_, rfl⟩
  rw [hbb] at hcall ⊢
  clear hbb
  have hfn := fun w => run_neq_func_nil (P := Try.prog) Try.underlying26 w (.func 20) #[.pointer (some ⟨c, 0, none⟩)] #[]
  go_enter Try.func50, Try.ntmps50
  go_wp2_with fail
  refine hcall.mono ?_
  rintro e w1 ⟨rfl, hC1, hO1⟩
  go_wp2_with fail
  go_ret
  exact ⟨rfl, hC1, hO1⟩
end Go.Proofs.Ytpagleilaaljoaa.W.HI
