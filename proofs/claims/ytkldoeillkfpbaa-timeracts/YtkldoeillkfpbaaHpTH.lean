/- A heap of moments in memory: the order, Get, Min. -/
import Derived.Test.YtkldoeillkfpbaaHpTG
import Derived.BigRegion
namespace Go.Proofs.Ytkldoeillkfpbaa.W.HT
open Go.RowKit

theorem lt_at {x y : V} (h : x.1 ≠ y.1) : lt x y = decide (x.1 < y.1) := by
  unfold lt
  by_cases e : x.1 < y.1
  · rw [decide_eq_true e]; exact decide_eq_true (Or.inl e)
  · rw [decide_eq_false e]; exact decide_eq_false (by omega)
theorem lt_kind {x y : V} (h : x.1 = y.1) (h' : x.2.1 ≠ y.2.1) : lt x y = decide (x.2.1 < y.2.1) := by
  unfold lt
  by_cases e : x.2.1 < y.2.1
  · rw [decide_eq_true e]; exact decide_eq_true (by omega)
  · rw [decide_eq_false e]; exact decide_eq_false (by omega)
theorem lt_id {x y : V} (h : x.1 = y.1) (h' : x.2.1 = y.2.1) : lt x y = decide (x.2.2 < y.2.2) := by
  unfold lt
  by_cases e : x.2.2 < y.2.2
  · rw [decide_eq_true e]; exact decide_eq_true (by omega)
  · rw [decide_eq_false e]; exact decide_eq_false (by omega)

set_option maxRecDepth 100000 in
set_option maxHeartbeats 800000 in
theorem sooner_any (x y : V) (w : World) :
    Calls Try.prog 45 #[vv x, vv y] w fun e w' => e = .returned (.bool (lt x y)) ∧ Below w.heap.size w w' := by
  obtain ⟨a, b, c⟩ := x
  obtain ⟨a', b', c'⟩ := y
  by_cases h : a = a'
  · by_cases h' : b = b'
    · subst h h'
      rw [lt_id (x := (a, b, c)) (y := (a, b, c')) rfl rfl]
      go_enter Try.func45, Try.ntmps45
      go_wp2_with fail
      go_ret
      exact ⟨rfl, ((Below.refl _ _).alloc (Nat.le_refl _) _).alloc (by simp <;> omega) _⟩
    · subst h
      rw [lt_kind (x := (a, b, c)) (y := (a, b', c')) rfl h']
      have hq : (b == b') = false := by simp [h']
      go_enter Try.func45, Try.ntmps45
      go_wp2_with fail
      go_ret
      exact ⟨rfl, ((Below.refl _ _).alloc (Nat.le_refl _) _).alloc (by simp <;> omega) _⟩
  · rw [lt_at (x := (a, b, c)) (y := (a', b', c')) h]
    have hq : (a == a') = false := by simp [h]
    go_enter Try.func45, Try.ntmps45
    go_wp2_with fail
    go_ret
    exact ⟨rfl, ((Below.refl _ _).alloc (Nat.le_refl _) _).alloc (by simp <;> omega) _⟩

abbrev FS : Value := .func (.func 45) #[] #[]
set_option maxRecDepth 100000 in
set_option maxHeartbeats 800000 in
theorem less_s (r : Nat) : Less r FS (fun _ => False) (fun _ _ => True) := by
  refine ⟨fun w m x y hc _ _ hx hy => ?_, fun _ _ _ _ _ _ _ => trivial⟩
  have hfn := fun w => run_neq_func_nil (P := Try.prog) Try.underlying99 w (.func 45) #[] #[]
  have hcall := fun w => sooner_any x y w
  obtain ⟨bb, hbb⟩ : ∃ bb, lt x y = bb := ⟨_, rfl⟩
  rw [hbb] at hcall ⊢
  clear hbb
  go_enter Try.func60, Try.ntmps60
  go_upto_region 1 with (fail)
  have hb0 : Below w.heap.size w ((w.alloc (.cells #[.int .i64 x.1, .int .i64 x.2.1, .int .i64 x.2.2] 77)).alloc (.cells #[.int .i64 y.1, .int .i64 y.2.1, .int .i64 y.2.2] 77)) := ((Below.refl w.heap.size w).alloc (Nat.le_refl _) _).alloc (by simp <;> omega) _
  have hc0 := (Only.of_below (S := fun _ => False) hb0).cell (x := ⟨r, 0, none⟩) (fun q => q) hc
  have ho1 : ((w.alloc (.cells #[.int .i64 x.1, .int .i64 x.2.1, .int .i64 x.2.2] 77)).alloc (.cells #[.int .i64 y.1, .int .i64 y.2.1, .int .i64 y.2.2] 77)).heap[w.heap.size]? = some (.cells #[.int .i64 x.1, .int .i64 x.2.1, .int .i64 x.2.2] 77) := (Only.alloc (Only.refl _ (fun _ => False)) _).blk (fun q => q) (heap_alloc_new w _)
  have ho2 : ((w.alloc (.cells #[.int .i64 x.1, .int .i64 x.2.1, .int .i64 x.2.2] 77)).alloc (.cells #[.int .i64 y.1, .int .i64 y.2.1, .int .i64 y.2.2] 77)).heap[w.heap.size + 1]? = some (.cells #[.int .i64 y.1, .int .i64 y.2.1, .int .i64 y.2.2] 77) := by
    have := heap_alloc_new (w.alloc (.cells #[.int .i64 x.1, .int .i64 x.2.1, .int .i64 x.2.2] 77)) (.cells #[.int .i64 y.1, .int .i64 y.2.1, .int .i64 y.2.2] 77)
    rwa [World.size_alloc] at this
  generalize ((w.alloc (.cells #[.int .i64 x.1, .int .i64 x.2.1, .int .i64 x.2.2] 77)).alloc (.cells #[.int .i64 y.1, .int .i64 y.2.1, .int .i64 y.2.2] 77)) = w1 at hb0 hc0 ho1 ho2 ⊢
  have y0 := cell_of_row _ _ 0 _ _ _ ho1
  have y1 := cell_of_row _ _ 1 _ _ _ ho1
  have y2 := cell_of_row _ _ 2 _ _ _ ho1
  have z0 := cell_of_row _ _ 0 _ _ _ ho2
  have z1 := cell_of_row _ _ 1 _ _ _ ho2
  have z2 := cell_of_row _ _ 2 _ _ _ ho2
  clear hc
  go_still_tail 12, (by kernel_rfl)
  change wpList _ _ _ _ _ w1.drew
  have hb1 : Below w.heap.size w w1.drew := below_drewN hb0 1
  clear y0 y1 y2 z0 z1 z2 hc0 hb0
  generalize w1.drew = w2 at hb1 ⊢
  go_wp2_with fail
  refine (hcall _).mono ?_
  rintro e w' ⟨rfl, hb⟩
  go_wp2_with fail
  go_ret
  exact ⟨rfl, trivial, Only.of_below (hb1.trans (hb.mono hb1.size))⟩

theorem sizeV : (Try.prog.info? 77).map (·.size) = some 3 := by kernel_rfl
theorem sizeK : (Try.prog.info? 30).map (·.size) = some 2 := by kernel_rfl
/-- A moment, a key into a block of its own. -/
theorem wpList_store_mo {w : World} {ops : Array Oper} {rest : List Oper} {o : Oper} {a : Act} {Q : Exit → Act → World → Prop} (hgd : o.guard = none) (x y : Operand) (ho : o.op = .store 77 x y)
    (g : Nat) (p q d : Int) (hx : a.eval x = .pointer (some ⟨g, 0, none⟩)) (hy : a.eval y = .agg #[.int .i64 p, .int .i64 q, .int .i64 d]) (i j k : Int)
    (HG : Hid (w.heap[g]? = some (.cells #[.int .i64 i, .int .i64 j, .int .i64 k] 77 (0, 0))))
    (hn : ∀ w', Hid (w'.heap[g]? = some (.cells #[.int .i64 p, .int .i64 q, .int .i64 d] 77 (0, 0))) → w.grownBy w' (some g) → wpList Try.prog ops Q rest (a.put o.dst undef) w') : wpList Try.prog ops Q (o :: rest) a w := by
  refine wpList_store_row hgd _ x y ho g _ hx hy _ _ HG.out sizeV rfl (by simp [Value.oneCell']) ?_
  exact hn _ (Lib.hid (show _ = _ from setRow_heap w g _ _ _ _ HG.out)) ⟨rfl, rfl, rfl, by simp [World.setRow], fun k _ hk => setRow_other w g k _ (by intro e; exact hk (by rw [e]))⟩
theorem wpList_store_key {w : World} {ops : Array Oper} {rest : List Oper} {o : Oper} {a : Act} {Q : Exit → Act → World → Prop} (hgd : o.guard = none) (x y : Operand) (ho : o.op = .store 30 x y)
    (g : Nat) (p q : Int) (hx : a.eval x = .pointer (some ⟨g, 0, none⟩)) (hy : a.eval y = .agg #[.int .i64 p, .int .i64 q]) (i j : Int)
    (HG : Hid (w.heap[g]? = some (.cells #[.int .i64 i, .int .i64 j] 30 (0, 0))))
    (hn : ∀ w', Hid (w'.heap[g]? = some (.cells #[.int .i64 p, .int .i64 q] 30 (0, 0))) → w.grownBy w' (some g) → wpList Try.prog ops Q rest (a.put o.dst undef) w') : wpList Try.prog ops Q (o :: rest) a w := by
  refine wpList_store_row hgd _ x y ho g _ hx hy _ _ HG.out sizeK rfl (by simp [Value.oneCell']) ?_
  exact hn _ (Lib.hid (show _ = _ from setRow_heap w g _ _ _ _ HG.out)) ⟨rfl, rfl, rfl, by simp [World.setRow], fun k _ hk => setRow_other w g k _ (by intro e; exact hk (by rw [e]))⟩

set_option maxRecDepth 100000 in
set_option maxHeartbeats 800000 in
theorem get_some (r : Nat) (Fv : Value) (n : Nat) (A : K → Option V) (X : Nat → Prop) (w : World) (h : Ob w r Fv n A X) (k : K) (hk : kw k) (v : V) (hv : A k = some v) (hn : n < 1073741824) :
    Calls Try.prog 36 #[.pointer (some ⟨r, 0, none⟩), kv k] w fun e w' => e = .returned (.tuple #[vv v, .bool true]) ∧ Below w.heap.size w w' := by
  obtain ⟨G, B, sv, T, M, h, h1, h2, h3, h4⟩ := h
  cases hM : M k with
  | none => rw [h.full.isnone hM] at hv; cases hv
  | some i =>
    obtain ⟨hin, hA, hkey⟩ := h.full.get hM
    rw [hv] at hA
    injection hA with hA
    obtain ⟨g, cap, hG, rfl, hrow⟩ := h.its.some_ (by omega)
    obtain ⟨b, hB, hmp⟩ : ∃ b, B = some b ∧ Mp Try.prog 30 w b (fun k => (M k).map (fun j : Nat => Value.int .i64 (j : Int))) n := by
      rcases h.mp with ⟨_, _, q⟩ | q
      · rw [q k] at hM; cases hM
      · exact q
    subst hB
    have hini : (i : Int) < (n : Int) := by omega
    have HM := Lib.hid hM
    have HA := Lib.hid hA
    clear hM hv hA
    go_enter Try.func36, Try.ntmps36
    go_upto_region 1 with (fail)
    have hO0 : Only w ((w.alloc (.cells #[.int .i64 k.1, .int .i64 k.2] 30)).alloc (.cells #[.int .i64 0, .int .i64 0, .int .i64 0] 77)) (fun _ => False) := ((Only.refl w _).alloc _).alloc _
    have HBK : Hid (((w.alloc (.cells #[.int .i64 k.1, .int .i64 k.2] 30)).alloc (.cells #[.int .i64 0, .int .i64 0, .int .i64 0] 77)).heap[w.heap.size]? = some (.cells #[.int .i64 k.1, .int .i64 k.2] 30)) := Lib.hid ((Only.alloc (Only.refl (w.alloc (.cells #[.int .i64 k.1, .int .i64 k.2] 30)) (fun _ => False)) _).blk (fun q => q) (heap_alloc_new w _))
    have HBZ : Hid (((w.alloc (.cells #[.int .i64 k.1, .int .i64 k.2] 30)).alloc (.cells #[.int .i64 0, .int .i64 0, .int .i64 0] 77)).heap[w.heap.size + 1]? = some (.cells #[.int .i64 0, .int .i64 0, .int .i64 0] 77)) := Lib.hid (by have := heap_alloc_new (w.alloc (.cells #[.int .i64 k.1, .int .i64 k.2] 30)) (.cells #[.int .i64 0, .int .i64 0, .int .i64 0] 77); rwa [World.size_alloc] at this)
    generalize ((w.alloc (.cells #[.int .i64 k.1, .int .i64 k.2] 30)).alloc (.cells #[.int .i64 0, .int .i64 0, .int .i64 0] 77)) = w0 at hO0 HBK HBZ ⊢
    have hBL := hO0.blk (fun q => q) h.blk
    have hmp := hmp.kept hO0 (fun q => q)
    have c2 := cell_of_row _ _ 2 _ _ _ hBL
    have y0 := cell_of_row _ _ 0 _ _ _ HBK.out
    have y1 := cell_of_row _ _ 1 _ _ _ HBK.out
    have hrun : ∀ x, (Instr.lookup 102 (.map (some b)) (.agg #[.int .i64 k.1, .int .i64 k.2]) true).run Try.prog (w0.drewN x) = .ok (.tuple #[.int .i64 (i : Int), .bool true]) (w0.drewN x) := fun x => by rw [(hmp.kept ((Only.refl w0 (fun _ => False)).drewN x) (fun q => q)).run_ok kd Try.underlying102 (zeroI _) hk]; simp [HM.out]
    have hrun1 : (Instr.lookup 102 (.map (some b)) (.agg #[.int .i64 k.1, .int .i64 k.2]) true).run Try.prog w0.drew = .ok (.tuple #[.int .i64 (i : Int), .bool true]) w0.drew := hrun 1
    go_quiet (fail)
    have hOd := hO0.drewN nq
    have HBZ := Lib.hid (((Only.refl w0 (fun _ => False)).drewN nq).blk (fun q => q) HBZ.out)
    clear hrun hrun1 c2 y0 y1
    generalize w0.drewN nq = w2 at hOd HBZ ⊢
    have hrow2 := hrow.kept hOd (fun q => q)
    have c1 := cell_of_row _ _ 1 _ _ _ (hOd.blk (fun q => q) h.blk)
    have x1 : w2.cell? ⟨g, i * 5 + 2, none⟩ = some (.int .i64 v.1) := hrow2.cell (c := 2) hin (by simp [← HA.out]) rfl
    have x2 : w2.cell? ⟨g, i * 5 + 3, none⟩ = some (.int .i64 v.2.1) := hrow2.cell (c := 3) hin (by simp [← HA.out]) rfl
    have x3 : w2.cell? ⟨g, i * 5 + 4, none⟩ = some (.int .i64 v.2.2) := hrow2.cell (c := 4) hin (by simp [← HA.out]) rfl
    go_wp2_with (with_reducible refine wpList_store_mo rfl (.tmp 4) (.tmp 28) rfl (w.heap.size + 1) v.1 v.2.1 v.2.2 rfl rfl 0 0 0 HBZ ?_; intro w3 HB3 hg3)
    have o3 : Only w w3 (fun _ => False) := hOd.trans (Only.grown hg3 (Or.inl rfl) : Only w2 w3 (fun j => j = w.heap.size + 1)) (fun j q => Or.inr (by omega))
    have z0 := cell_of_row _ _ 0 _ _ _ HB3.out
    have z1 := cell_of_row _ _ 1 _ _ _ HB3.out
    have z2 := cell_of_row _ _ 2 _ _ _ HB3.out
    exact bodyPost_ret (v := .tuple #[vv v, .bool true]) (by simp [results, Try.results36, go_sem, z0, z1, z2]) rfl ⟨rfl, o3.below (fun _ q => q.elim) (Nat.le_refl _)⟩

set_option maxRecDepth 100000 in
set_option maxHeartbeats 800000 in
theorem get_none (r : Nat) (Fv : Value) (n : Nat) (A : K → Option V) (X : Nat → Prop) (w : World) (h : Ob w r Fv n A X) (k : K) (hk : kw k) (hv : A k = none) :
    Calls Try.prog 36 #[.pointer (some ⟨r, 0, none⟩), kv k] w fun e w' => e = .returned (.tuple #[.agg #[.int .i64 0, .int .i64 0, .int .i64 0], .bool false]) ∧ Below w.heap.size w w' := by
  obtain ⟨G, B, sv, T, M, h, h1, h2, h3, h4⟩ := h
  have hM : M k = none := by
    cases q : M k with
    | none => rfl
    | some i => rw [(h.full.get q).2.1] at hv; cases hv
  have HM := Lib.hid hM
  clear hM hv
  rcases h.mp with ⟨hB, _⟩ | ⟨b, hB, hmp⟩
  · subst hB
    go_enter Try.func36, Try.ntmps36
    go_upto_region 1 with (fail)
    have hO0 : Only w ((w.alloc (.cells #[.int .i64 k.1, .int .i64 k.2] 30)).alloc (.cells #[.int .i64 0, .int .i64 0, .int .i64 0] 77)) (fun _ => False) := ((Only.refl w _).alloc _).alloc _
    have HBK : Hid (((w.alloc (.cells #[.int .i64 k.1, .int .i64 k.2] 30)).alloc (.cells #[.int .i64 0, .int .i64 0, .int .i64 0] 77)).heap[w.heap.size]? = some (.cells #[.int .i64 k.1, .int .i64 k.2] 30)) := Lib.hid ((Only.alloc (Only.refl (w.alloc (.cells #[.int .i64 k.1, .int .i64 k.2] 30)) (fun _ => False)) _).blk (fun q => q) (heap_alloc_new w _))
    have HBZ : Hid (((w.alloc (.cells #[.int .i64 k.1, .int .i64 k.2] 30)).alloc (.cells #[.int .i64 0, .int .i64 0, .int .i64 0] 77)).heap[w.heap.size + 1]? = some (.cells #[.int .i64 0, .int .i64 0, .int .i64 0] 77)) := Lib.hid (by have := heap_alloc_new (w.alloc (.cells #[.int .i64 k.1, .int .i64 k.2] 30)) (.cells #[.int .i64 0, .int .i64 0, .int .i64 0] 77); rwa [World.size_alloc] at this)
    generalize ((w.alloc (.cells #[.int .i64 k.1, .int .i64 k.2] 30)).alloc (.cells #[.int .i64 0, .int .i64 0, .int .i64 0] 77)) = w0 at hO0 HBK HBZ ⊢
    have hBL := hO0.blk (fun q => q) h.blk
    have c2 := cell_of_row _ _ 2 _ _ _ hBL
    have y0 := cell_of_row _ _ 0 _ _ _ HBK.out
    have y1 := cell_of_row _ _ 1 _ _ _ HBK.out
    have hrun : ∀ x, (Instr.lookup 102 (.map none) (.agg #[.int .i64 k.1, .int .i64 k.2]) true).run Try.prog (w0.drewN x) = .ok (.tuple #[.int .i64 0, .bool false]) (w0.drewN x) := fun x => run_nil kd Try.underlying102 (zeroI _) hk
    have hrun1 : (Instr.lookup 102 (.map none) (.agg #[.int .i64 k.1, .int .i64 k.2]) true).run Try.prog w0.drew = .ok (.tuple #[.int .i64 0, .bool false]) w0.drew := hrun 1
    go_quiet (fail)
    have hOd := hO0.drewN nq
    have HBZ := Lib.hid (((Only.refl w0 (fun _ => False)).drewN nq).blk (fun q => q) HBZ.out)
    clear hrun hrun1 c2 y0 y1
    generalize w0.drewN nq = w2 at hOd HBZ ⊢
    go_upto_region 4 with (fail)
    have hOe := hOd.alloc (.cells #[.int .i64 0, .int .i64 0, .int .i64 0] 77)
    have HBZ := Lib.hid (((Only.refl w2 (fun _ => False)).alloc (.cells #[.int .i64 0, .int .i64 0, .int .i64 0] 77)).blk (fun q => q) HBZ.out)
    have HBN := heap_alloc_new w2 (.cells #[.int .i64 0, .int .i64 0, .int .i64 0] 77)
    generalize w2.heap.size = H at HBN ⊢
    generalize w2.alloc (.cells #[.int .i64 0, .int .i64 0, .int .i64 0] 77) = w2 at hOe HBZ HBN ⊢
    have x0 := cell_of_row _ _ 0 _ _ _ HBN
    have x1 := cell_of_row _ _ 1 _ _ _ HBN
    have x2 := cell_of_row _ _ 2 _ _ _ HBN
    have hOd := hOe
    go_wp2_with (with_reducible refine wpList_store_mo rfl (.tmp 4) (.tmp 20) rfl (w.heap.size + 1) 0 0 0 rfl rfl 0 0 0 HBZ ?_; intro w3 HB3 hg3)
    have o3 : Only w w3 (fun _ => False) := hOd.trans (Only.grown hg3 (Or.inl rfl) : Only w2 w3 (fun j => j = w.heap.size + 1)) (fun j q => Or.inr (by omega))
    have z0 := cell_of_row _ _ 0 _ _ _ HB3.out
    have z1 := cell_of_row _ _ 1 _ _ _ HB3.out
    have z2 := cell_of_row _ _ 2 _ _ _ HB3.out
    exact bodyPost_ret (v := .tuple #[.agg #[.int .i64 0, .int .i64 0, .int .i64 0], .bool false]) (by simp [results, Try.results36, go_sem, z0, z1, z2]) rfl ⟨rfl, o3.below (fun _ q => q.elim) (Nat.le_refl _)⟩
  · subst hB
    go_enter Try.func36, Try.ntmps36
    go_upto_region 1 with (fail)
    have hO0 : Only w ((w.alloc (.cells #[.int .i64 k.1, .int .i64 k.2] 30)).alloc (.cells #[.int .i64 0, .int .i64 0, .int .i64 0] 77)) (fun _ => False) := ((Only.refl w _).alloc _).alloc _
    have HBK : Hid (((w.alloc (.cells #[.int .i64 k.1, .int .i64 k.2] 30)).alloc (.cells #[.int .i64 0, .int .i64 0, .int .i64 0] 77)).heap[w.heap.size]? = some (.cells #[.int .i64 k.1, .int .i64 k.2] 30)) := Lib.hid ((Only.alloc (Only.refl (w.alloc (.cells #[.int .i64 k.1, .int .i64 k.2] 30)) (fun _ => False)) _).blk (fun q => q) (heap_alloc_new w _))
    have HBZ : Hid (((w.alloc (.cells #[.int .i64 k.1, .int .i64 k.2] 30)).alloc (.cells #[.int .i64 0, .int .i64 0, .int .i64 0] 77)).heap[w.heap.size + 1]? = some (.cells #[.int .i64 0, .int .i64 0, .int .i64 0] 77)) := Lib.hid (by have := heap_alloc_new (w.alloc (.cells #[.int .i64 k.1, .int .i64 k.2] 30)) (.cells #[.int .i64 0, .int .i64 0, .int .i64 0] 77); rwa [World.size_alloc] at this)
    generalize ((w.alloc (.cells #[.int .i64 k.1, .int .i64 k.2] 30)).alloc (.cells #[.int .i64 0, .int .i64 0, .int .i64 0] 77)) = w0 at hO0 HBK HBZ ⊢
    have hBL := hO0.blk (fun q => q) h.blk
    have hmp := hmp.kept hO0 (fun q => q)
    have c2 := cell_of_row _ _ 2 _ _ _ hBL
    have y0 := cell_of_row _ _ 0 _ _ _ HBK.out
    have y1 := cell_of_row _ _ 1 _ _ _ HBK.out
    have hrun : ∀ x, (Instr.lookup 102 (.map (some b)) (.agg #[.int .i64 k.1, .int .i64 k.2]) true).run Try.prog (w0.drewN x) = .ok (.tuple #[.int .i64 0, .bool false]) (w0.drewN x) := fun x => by rw [(hmp.kept ((Only.refl w0 (fun _ => False)).drewN x) (fun q => q)).run_ok kd Try.underlying102 (zeroI _) hk]; simp [HM.out]
    have hrun1 : (Instr.lookup 102 (.map (some b)) (.agg #[.int .i64 k.1, .int .i64 k.2]) true).run Try.prog w0.drew = .ok (.tuple #[.int .i64 0, .bool false]) w0.drew := hrun 1
    go_quiet (fail)
    have hOd := hO0.drewN nq
    have HBZ := Lib.hid (((Only.refl w0 (fun _ => False)).drewN nq).blk (fun q => q) HBZ.out)
    clear hrun hrun1 c2 y0 y1
    generalize w0.drewN nq = w2 at hOd HBZ ⊢
    go_upto_region 4 with (fail)
    have hOe := hOd.alloc (.cells #[.int .i64 0, .int .i64 0, .int .i64 0] 77)
    have HBZ := Lib.hid (((Only.refl w2 (fun _ => False)).alloc (.cells #[.int .i64 0, .int .i64 0, .int .i64 0] 77)).blk (fun q => q) HBZ.out)
    have HBN := heap_alloc_new w2 (.cells #[.int .i64 0, .int .i64 0, .int .i64 0] 77)
    generalize w2.heap.size = H at HBN ⊢
    generalize w2.alloc (.cells #[.int .i64 0, .int .i64 0, .int .i64 0] 77) = w2 at hOe HBZ HBN ⊢
    have x0 := cell_of_row _ _ 0 _ _ _ HBN
    have x1 := cell_of_row _ _ 1 _ _ _ HBN
    have x2 := cell_of_row _ _ 2 _ _ _ HBN
    have hOd := hOe
    go_wp2_with (with_reducible refine wpList_store_mo rfl (.tmp 4) (.tmp 20) rfl (w.heap.size + 1) 0 0 0 rfl rfl 0 0 0 HBZ ?_; intro w3 HB3 hg3)
    have o3 : Only w w3 (fun _ => False) := hOd.trans (Only.grown hg3 (Or.inl rfl) : Only w2 w3 (fun j => j = w.heap.size + 1)) (fun j q => Or.inr (by omega))
    have z0 := cell_of_row _ _ 0 _ _ _ HB3.out
    have z1 := cell_of_row _ _ 1 _ _ _ HB3.out
    have z2 := cell_of_row _ _ 2 _ _ _ HB3.out
    exact bodyPost_ret (v := .tuple #[.agg #[.int .i64 0, .int .i64 0, .int .i64 0], .bool false]) (by simp [results, Try.results36, go_sem, z0, z1, z2]) rfl ⟨rfl, o3.below (fun _ q => q.elim) (Nat.le_refl _)⟩

set_option maxRecDepth 100000 in
set_option maxHeartbeats 800000 in
theorem min_none (r : Nat) (Fv : Value) (A : K → Option V) (X : Nat → Prop) (w : World) (h : Ob w r Fv 0 A X) :
    Calls Try.prog 33 #[.pointer (some ⟨r, 0, none⟩)] w fun e w' => e = .returned (.tuple #[.agg #[.int .i64 0, .int .i64 0], .agg #[.int .i64 0, .int .i64 0, .int .i64 0], .bool false]) ∧ Below w.heap.size w w' := by
  obtain ⟨G, B, sv, T, M, h, h1, h2, h3, h4⟩ := h
  have c1 := cell_of_row _ _ 1 _ _ _ h.blk
  have hrlt := lt_of_row h.blk
  obtain ⟨A1, cap, rfl, hc1, hc2⟩ := h.its.slice
  go_enter Try.func33, Try.ntmps33
  go_wp2
  go_region
  go_wp2
  exact bodyPost_ret (v := .tuple #[.agg #[.int .i64 0, .int .i64 0], .agg #[.int .i64 0, .int .i64 0, .int .i64 0], .bool false]) (by simp [results, Try.results33, go_sem]) rfl ⟨rfl, below_drewN ((((Below.refl w.heap.size w).alloc (Nat.le_refl _) _).alloc (by simp <;> omega) _).alloc (by simp <;> omega) _) 1⟩

set_option maxRecDepth 100000 in
set_option maxHeartbeats 800000 in
theorem min_some (r : Nat) (Fv : Value) (n : Nat) (A : K → Option V) (X : Nat → Prop) (w : World) (h : Ob w r Fv n A X) (hn : 0 < n) (hn2 : n < 1073741824) :
    Calls Try.prog 33 #[.pointer (some ⟨r, 0, none⟩)] w fun e w' => ∃ (k : K) (v : V), e = .returned (.tuple #[kv k, vv v, .bool true]) ∧ A k = some v ∧ (∀ k' v', A k' = some v' → lt v' v = false) ∧ Below w.heap.size w w' := by
  obtain ⟨G, B, sv, T, M, h, h1, h2, h3, h4⟩ := h
  have c1 := cell_of_row _ _ 1 _ _ _ h.blk
  have hrlt := lt_of_row h.blk
  obtain ⟨g, cap, hG, rfl, hrow⟩ := h.its.some_ hn
  have hglt := hrow.lt
  obtain ⟨⟨k, v⟩, hT⟩ : ∃ x, T 0 = x := ⟨_, rfl⟩
  have hmin := h.full.mn odr hn
  rw [hT] at hmin
  have x0 : w.cell? ⟨g, 0, none⟩ = some (.int .i64 k.1) := hrow.cell (c := 0) hn (by rw [hT]; rfl) rfl
  have x1 : w.cell? ⟨g, 1, none⟩ = some (.int .i64 k.2) := hrow.cell (c := 1) hn (by rw [hT]; rfl) rfl
  have x2 : w.cell? ⟨g, 2, none⟩ = some (.int .i64 v.1) := hrow.cell (c := 2) hn (by rw [hT]; rfl) rfl
  have x3 : w.cell? ⟨g, 3, none⟩ = some (.int .i64 v.2.1) := hrow.cell (c := 3) hn (by rw [hT]; rfl) rfl
  have x4 : w.cell? ⟨g, 4, none⟩ = some (.int .i64 v.2.2) := hrow.cell (c := 4) hn (by rw [hT]; rfl) rfl
  have hn0 : (0 : Int) < (n : Int) := by omega
  have hnz : ((n : Int) == 0) = false := by simp; omega
  have HMN := Lib.hid hmin
  clear hmin hT
  go_enter Try.func33, Try.ntmps33
  go_wp2
  go_region
  go_wp2
  exact bodyPost_ret (v := .tuple #[kv k, vv v, .bool true]) (by simp [results, Try.results33, go_sem]) rfl ⟨k, v, rfl, HMN.out.1, HMN.out.2, below_drewN (((Below.refl w.heap.size w).alloc (Nat.le_refl _) _).alloc (by simp <;> omega) _) 1⟩
end Go.Proofs.Ytkldoeillkfpbaa.W.HT
