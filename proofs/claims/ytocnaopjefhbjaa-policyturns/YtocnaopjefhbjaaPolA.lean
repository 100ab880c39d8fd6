/- Contracts of package policy. -/
import Derived.Test.YtocnaopjefhbjaaPolM
import Derived.Test.YtocnaopjefhbjaaHistoL
import Derived.Test.YtocnaopjefhbjaaRingB
import Derived.Test.YtocnaopjefhbjaaCastC
namespace Go.Proofs.Ytocnaopjefhbjaa.W
open Go.RowKit

/-- A struct into a block that is known whole. -/
theorem wpList_store_agg {P : Program} {w : World} {ops : Array Oper} {rest : List Oper} {o : Oper} {a : Act} {Q : Exit → Act → World → Prop} (hgd : o.guard = none) (ty : TypeId) (x y : Operand) (ho : o.op = .store ty x y)
    (g : Nat) (cells : Array Value) (hx : a.eval x = .pointer (some ⟨g, 0, none⟩)) (hy : a.eval y = .agg cells)
    (t : TypeId) (old : Array Value) (hg : w.heap[g]? = some (.cells old t (0, 0))) (hi : (P.info? ty).map (·.size) = some cells.size)
    (hold : old.size = cells.size) (h1 : cells.all (·.oneCell') = true)
    (h : ∀ w', Hid (w'.heap[g]? = some (.cells cells t (0, 0))) → w.grownBy w' (some g) → wpList P ops Q rest (a.put o.dst undef) w') : wpList P ops Q (o :: rest) a w := by
  refine wpList_store_row hgd ty x y ho g cells hx hy t old hg hi hold h1 ?_
  exact h _ (show _ = _ from setRow_heap w g _ _ t _ hg) ⟨rfl, rfl, rfl, by simp [World.setRow], fun k _ hk => setRow_other w g k _ (by intro e; exact hk (by rw [e]))⟩
/-- A Window into the block of a result. -/
theorem sizeWin : (Try.prog.info? 35).map (·.size) = some 3 := by kernel_rfl

theorem wpList_store_win {w : World} {ops : Array Oper} {rest : List Oper} {o : Oper} {a : Act} {Q : Exit → Act → World → Prop} (hgd : o.guard = none) (x y : Operand) (ho : o.op = .store 35 x y)
    (g : Nat) (h p e : Int) (hx : a.eval x = .pointer (some ⟨g, 0, none⟩)) (hy : a.eval y = Win h p e) (i j k : Int)
    (HG : Hid (w.heap[g]? = some (.cells #[.int .i64 i, .int .i64 j, .int .i64 k] 35 (0, 0))))
    (hn : ∀ w', Hid (w'.heap[g]? = some (.cells #[.int .i64 h, .int .i64 p, .int .i64 e] 35 (0, 0))) → w.grownBy w' (some g) → wpList Try.prog ops Q rest (a.put o.dst undef) w') : wpList Try.prog ops Q (o :: rest) a w :=
  wpList_store_agg hgd _ x y ho g _ hx hy _ _ HG.out sizeWin rfl (by simp [Value.oneCell']) hn
theorem ret_win {g : Nat} {h p e : Int} {w : World} {fn : Func} {t : Tmp} {tmps : Array Value} (hf : fn.results = #[.cell t 35]) (ht : tmps.getD t undef = .pointer (some ⟨g, 0, none⟩))
    (HG : Hid (w.heap[g]? = some (.cells #[.int .i64 h, .int .i64 p, .int .i64 e] 35 (0, 0)))) : (results fn tmps).run Try.prog w = .ok (Win h p e) w :=
  results_cell_row hf tmps w g _ _ _ _ ht HG.out Try.underlying35 rfl sizeWin

set_option maxRecDepth 100000 in
set_option maxHeartbeats 800000 in
theorem fixed_any (w : World) : Calls Try.prog 22 #[] w fun e w' => e = .returned (Win 0 0 10) ∧ Below w.heap.size w w' := by
  go_enter Try.func22, Try.ntmps22
  go_wp2
  exact bodyPost_ret (v := Win 0 0 10) (by simp [results, Try.results22, go_sem]) rfl ⟨rfl, (Below.refl _ _).alloc (Nat.le_refl _) _⟩

/-- The block of a result, new and not yet written. -/
def NewW (w w1 : World) : Prop := w1.heap[w.heap.size]? = some (.cells #[.int .i64 0, .int .i64 0, .int .i64 0] 35 (0, 0)) ∧ Below w.heap.size w w1
theorem newW (w : World) : NewW w (w.alloc (.cells #[.int .i64 0, .int .i64 0, .int .i64 0] 35)) := ⟨heap_alloc_new w _, (Below.refl _ _).alloc (Nat.le_refl _) _⟩
theorem NewW.drewN {w w1 : World} (h : NewW w w1) (n : Nat) : NewW w (w1.drewN n) := ⟨h.1, below_drewN h.2 n⟩
theorem NewW.lt {w w1 : World} (h : NewW w w1) : w.heap.size < w1.heap.size := lt_of_row h.1
theorem NewW.below {w w1 w2 : World} (h : NewW w w1) (hb : Below w1.heap.size w1 w2) : NewW w w2 := ⟨by rw [hb.block _ h.lt]; exact h.1, h.2.trans (hb.mono h.2.size)⟩
theorem NewW.done {w w1 w2 : World} (h : NewW w w1) (hg : w1.grownBy w2 (some w.heap.size)) : Below w.heap.size w w2 := below_row h.2 (Nat.le_refl _) hg h.2.size

set_option maxRecDepth 100000 in
set_option maxHeartbeats 800000 in
theorem byNext_any (n : Int) (h0 : 0 ≤ n) (h1 : n ≤ 1099511627776) (w : World) : Calls Try.prog 23 #[.int .i64 n] w fun e w' => e = .returned (Win 2 (preN n) (endN n)) ∧ Below w.heap.size w w' := by
  have hp0 : 0 ≤ preN n := by unfold preN; omega
  have hp1 : preN n ≤ 1099511627776 := by unfold preN; omega
  have E1 := Lib.hid (frac85 h0 h1)
  have E2 := Lib.hid (frac115 h0 h1)
  have hE : endN n = max ((n * 115 + 99) / 100) (preN n + 1) := rfl
  obtain ⟨p, hp⟩ : ∃ p, preN n = p := ⟨_, rfl⟩
  obtain ⟨q, hq⟩ : ∃ q, (n * 115 + 99) / 100 = q := ⟨_, rfl⟩
  rw [hp] at hp0 hp1 hE E1
  rw [hq] at hE E2
  have hS : sat (p + 1) = p + 1 := by unfold sat; split <;> (try split) <;> omega
  have HS := Lib.hid hS
  have HP := Lib.hid hp
  have HE := Lib.hid hE
  clear hp hq hE hS
  go_enter Try.func23, Try.ntmps23
  go_wp2_with fail
  have hN := newW w
  generalize w.alloc _ = w1 at hN ⊢
  refine (frac_any _ _ _ ⟨by omega, by omega⟩ ⟨by omega, by omega⟩ ⟨by omega, by omega⟩ _).mono ?_
  rintro e w' ⟨rfl, j, rfl⟩
  rw [E1.out]
  have hN1 := hN.drewN j
  generalize w1.drewN j = w2 at hN1 ⊢
  clear hN
  go_wp2_with fail
  refine (fracUp_any _ _ _ ⟨by omega, by omega⟩ ⟨by omega, by omega⟩ ⟨by omega, by omega⟩ _).mono ?_
  rintro e w' ⟨rfl, j, rfl⟩
  rw [E2.out]
  have hN2 := hN1.drewN j
  generalize w2.drewN j = w3 at hN2 ⊢
  clear hN1
  go_wp2_with fail
  refine (add_any _ _ ⟨by omega, by omega⟩ ⟨by omega, by omega⟩ _).mono ?_
  rintro e w' ⟨rfl, rfl⟩
  rw [HS.out]
  obtain ⟨m, hm⟩ : ∃ m, m = max q (p + 1) := ⟨_, rfl⟩
  have HM := Lib.hid hm
  clear hm
  have HW := Lib.hid hN2.1
  go_wp2_with (first
    | (with_reducible refine wpList_max_to rfl (.tmp 8) (.tmp 10) 2 2 rfl .i64 .i64 q (p + 1) m rfl rfl HM.out ?_)
    | (with_reducible refine wpList_store_win rfl (.tmp 2) (.tmp 12) rfl w.heap.size 2 p m rfl rfl 0 0 0 HW ?_; intro w4 HG hg4))
  refine bodyPost_ret (ret_win (fn := Try.f23) rfl rfl HG) rfl ⟨?_, hN2.done hg4⟩
  rw [HP.out, HE.out, HM.out]

set_option maxRecDepth 100000 in
set_option maxHeartbeats 800000 in
theorem byCounts_any (r o : Nat) (F : Nat → Nat) (w : World) (h : Hs w r F o) : Calls Try.prog 27 #[.pointer (some ⟨r, 0, none⟩)] w fun e w' => e = .returned (Win 1 (preC (cutN F 5)) (endC (cutN F 99))) ∧ Below w.heap.size w w' := by
  have c5 : clampP 5 = 5 := by decide
  have c99 : clampP 99 = 99 := by decide
  obtain ⟨a, ha⟩ : ∃ a, cutN F 5 = a := ⟨_, rfl⟩
  obtain ⟨b, hb⟩ : ∃ b, cutN F 99 = b := ⟨_, rfl⟩
  have ha1 : a < 240 := by rw [← ha]; exact cut_lt F 5
  have hb1 : b < 240 := by rw [← hb]; exact cut_lt F 99
  have E1 := Lib.hid (frac9 ha1)
  have E2 := Lib.hid (frac11 hb1)
  have C5 := Lib.hid c5
  have C99 := Lib.hid c99
  have HA := Lib.hid ha
  have HB := Lib.hid hb
  obtain ⟨d, hd⟩ : ∃ d, decide (0 < tot F) = d := ⟨_, rfl⟩
  have HD := Lib.hid hd
  have hr := h.lt
  clear c5 c99 ha hb hd
  go_enter Try.func27, Try.ntmps27
  go_wp2_with fail
  have hN := newW w
  have h1 := h.keep hN.2 hr
  generalize w.alloc _ = w1 at hN h1 ⊢
  refine (cut_any r _ _ 5 _ h1).mono ?_
  rintro e w' ⟨rfl, rfl⟩
  rw [C5.out, HA.out, HD.out]
  go_wp2_with fail
  refine (cut_any r _ _ 99 _ h1).mono ?_
  rintro e w' ⟨rfl, rfl⟩
  rw [C99.out, HB.out, HD.out]
  go_wp2_with fail
  refine (frac_any _ _ _ ⟨by omega, by omega⟩ ⟨by omega, by omega⟩ ⟨by omega, by omega⟩ _).mono ?_
  rintro e w' ⟨rfl, j, rfl⟩
  rw [E1.out]
  have hN1 := hN.drewN j
  generalize w1.drewN j = w2 at hN1 ⊢
  clear hN h1
  go_wp2_with fail
  refine (fracUp_any _ _ _ ⟨by omega, by omega⟩ ⟨by omega, by omega⟩ ⟨by omega, by omega⟩ _).mono ?_
  rintro e w' ⟨rfl, j, rfl⟩
  rw [E2.out]
  have hN2 := hN1.drewN j
  generalize w2.drewN j = w3 at hN2 ⊢
  clear hN1
  obtain ⟨p, hp⟩ : ∃ p, preC a = p := ⟨_, rfl⟩
  obtain ⟨m, hm⟩ : ∃ m, endC b = m := ⟨_, rfl⟩
  have HP := Lib.hid hp
  have HM := Lib.hid hm
  rw [hp, hm]
  clear hp hm
  have HW := Lib.hid hN2.1
  go_wp2_with (with_reducible refine wpList_store_win rfl (.tmp 2) (.tmp 22) rfl w.heap.size 1 p m rfl rfl 0 0 0 HW ?_; intro w4 HG hg4)
  refine bodyPost_ret (ret_win (fn := Try.f27) rfl rfl HG) rfl ⟨?_, hN2.done hg4⟩
  rw [HA.out, HB.out, HP.out, HM.out]

set_option maxRecDepth 100000 in
set_option maxHeartbeats 1600000 in
theorem of_few (r s o : Nat) (F : Nat → Nat) (ys : List Int) (w : World) (h : Hs w r F o) (hR : Rg w s ys) (hf : tot F + o < 4) :
    Calls Try.prog 14 #[.pointer (some ⟨r, 0, none⟩), .pointer (some ⟨s, 0, none⟩)] w fun e w' => e = .returned (Win 0 0 10) ∧ Below w.heap.size w w' := by
  obtain ⟨T, hT⟩ : ∃ T, tot F = T := ⟨_, rfl⟩
  have hlt := h.1
  rw [hT] at hf hlt
  have HT := Lib.hid hT
  clear hT
  have hfi : (T : Int) + (o : Int) < 4 := by omega
  go_enter Try.func14, Try.ntmps14
  go_wp2_with fail
  have hN := newW w
  have h1 := h.keep hN.2 h.lt
  have hR1 := hR.keep hN.2 hR.lt
  generalize w.alloc _ = w1 at hN h1 hR1 ⊢
  clear h hR
  refine (histo_over r _ _ _ h1).mono ?_
  rintro e w' ⟨rfl, rfl⟩
  go_wp2_with fail
  refine (histo_in r _ _ _ h1).mono ?_
  rintro e w' ⟨rfl, rfl⟩
  rw [HT.out]
  go_wp2_with fail
  refine (fixed_any _).mono ?_
  rintro e w2 ⟨rfl, hb2⟩
  have hN2 := hN.below hb2
  clear hN h1 hR1 hb2
  have HW := Lib.hid hN2.1
  go_wp2_with (with_reducible refine wpList_store_win rfl (.tmp 4) (.tmp 16) rfl w.heap.size 0 0 10 rfl rfl 0 0 0 HW ?_; intro w4 HG hg4)
  exact bodyPost_ret (ret_win (fn := Try.f14) rfl rfl HG) rfl ⟨rfl, hN2.done hg4⟩

set_option maxRecDepth 100000 in
set_option maxHeartbeats 1600000 in
theorem of_next (r s o : Nat) (F : Nat → Nat) (ys : List Int) (w : World) (h : Hs w r F o) (hR : Rg w s ys) (hf : 4 ≤ tot F + o) (hn : tot F + o < 2 * o) :
    Calls Try.prog 14 #[.pointer (some ⟨r, 0, none⟩), .pointer (some ⟨s, 0, none⟩)] w fun e w' => e = .returned (Win 2 (preN (nextI ys)) (endN (nextI ys))) ∧ Below w.heap.size w w' := by
  obtain ⟨T, hT⟩ : ∃ T, tot F = T := ⟨_, rfl⟩
  have hlt := h.1
  rw [hT] at hf hn hlt
  have HT := Lib.hid hT
  clear hT
  have hfi : decide ((T : Int) + (o : Int) < 4) = false := by simp; omega
  have hni : (T : Int) + (o : Int) < 2 * (o : Int) := by omega
  go_enter Try.func14, Try.ntmps14
  go_wp2_with fail
  have hN := newW w
  have h1 := h.keep hN.2 h.lt
  have hR1 := hR.keep hN.2 hR.lt
  generalize w.alloc _ = w1 at hN h1 hR1 ⊢
  clear h hR
  refine (histo_over r _ _ _ h1).mono ?_
  rintro e w' ⟨rfl, rfl⟩
  go_wp2_with fail
  refine (histo_in r _ _ _ h1).mono ?_
  rintro e w' ⟨rfl, rfl⟩
  rw [HT.out]
  go_wp2_with fail
  refine (ring_list s _ _ hR1).mono ?_
  rintro e w2 ⟨g, cap, m, HM, rfl, own, hb2⟩
  have hN2 := hN.below hb2
  have L2 := lies_own own
  have k1 := (own_cap own).1
  have k2 := own_max own
  clear hN h1 hR1 hb2 own
  go_wp2_with fail
  refine (next_any _ _ m cap ys _ HM.out k1 k2 L2).mono ?_
  rintro e w' ⟨rfl, j, rfl⟩
  have hN3 := hN2.drewN j
  generalize w2.drewN j = w3 at hN3 ⊢
  clear hN2 L2 k1 k2
  obtain ⟨n0, n1⟩ := next_range ys
  obtain ⟨n, hn'⟩ : ∃ n, nextI ys = n := ⟨_, rfl⟩
  rw [hn'] at n0 n1 ⊢
  have HNN := Lib.hid hn'
  clear hn'
  go_wp2_with fail
  refine (byNext_any n n0 n1 _).mono ?_
  rintro e w4 ⟨rfl, hb4⟩
  have hN2 := hN3.below hb4
  clear hN3 hb4
  obtain ⟨p, hp⟩ : ∃ p, preN n = p := ⟨_, rfl⟩
  obtain ⟨q, hq⟩ : ∃ q, endN n = q := ⟨_, rfl⟩
  rw [hp, hq]
  have HP := Lib.hid hp
  have HQ := Lib.hid hq
  clear hp hq
  have HW := Lib.hid hN2.1
  go_wp2_with (with_reducible refine wpList_store_win rfl (.tmp 4) (.tmp 25) rfl w.heap.size 2 p q rfl rfl 0 0 0 HW ?_; intro w4 HG hg4)
  exact bodyPost_ret (ret_win (fn := Try.f14) rfl rfl HG) rfl ⟨by rw [HNN.out, HP.out, HQ.out], hN2.done hg4⟩

set_option maxRecDepth 100000 in
set_option maxHeartbeats 1600000 in
theorem of_not (r s o : Nat) (F : Nat → Nat) (ys : List Int) (w : World) (h : Hs w r F o) (hR : Rg w s ys) (hf : 4 ≤ tot F + o) (hn : 2 * o ≤ tot F + o) (hs : spreadB F = false) :
    Calls Try.prog 14 #[.pointer (some ⟨r, 0, none⟩), .pointer (some ⟨s, 0, none⟩)] w fun e w' => e = .returned (Win 0 0 10) ∧ Below w.heap.size w w' := by
  obtain ⟨T, hT⟩ : ∃ T, tot F = T := ⟨_, rfl⟩
  have hlt := h.1
  rw [hT] at hf hn hlt
  have HT := Lib.hid hT
  clear hT
  have hfi : decide ((T : Int) + (o : Int) < 4) = false := by simp; omega
  have hni : decide ((T : Int) + (o : Int) < 2 * (o : Int)) = false := by simp; omega
  have HS := Lib.hid hs
  clear hs
  go_enter Try.func14, Try.ntmps14
  go_wp2_with fail
  have hN := newW w
  have h1 := h.keep hN.2 h.lt
  have hR1 := hR.keep hN.2 hR.lt
  generalize w.alloc _ = w1 at hN h1 hR1 ⊢
  clear h hR
  refine (histo_over r _ _ _ h1).mono ?_
  rintro e w' ⟨rfl, rfl⟩
  go_wp2_with fail
  refine (histo_in r _ _ _ h1).mono ?_
  rintro e w' ⟨rfl, rfl⟩
  rw [HT.out]
  go_wp2_with fail
  refine (spread_any r _ _ _ h1).mono ?_
  rintro e w' ⟨rfl, j, rfl⟩
  rw [HS.out]
  have hN1 := hN.drewN j
  generalize w1.drewN j = w2 at hN1 ⊢
  clear hN h1 hR1
  go_wp2_with fail
  refine (fixed_any _).mono ?_
  rintro e w3 ⟨rfl, hb2⟩
  have hN2 := hN1.below hb2
  clear hN1 hb2
  have HW := Lib.hid hN2.1
  go_wp2_with (with_reducible refine wpList_store_win rfl (.tmp 4) (.tmp 30) rfl w.heap.size 0 0 10 rfl rfl 0 0 0 HW ?_; intro w4 HG hg4)
  exact bodyPost_ret (ret_win (fn := Try.f14) rfl rfl HG) rfl ⟨rfl, hN2.done hg4⟩

set_option maxRecDepth 100000 in
set_option maxHeartbeats 1600000 in
theorem of_hist (r s o : Nat) (F : Nat → Nat) (ys : List Int) (w : World) (h : Hs w r F o) (hR : Rg w s ys) (hf : 4 ≤ tot F + o) (hn : 2 * o ≤ tot F + o) (hs : spreadB F = true) :
    Calls Try.prog 14 #[.pointer (some ⟨r, 0, none⟩), .pointer (some ⟨s, 0, none⟩)] w fun e w' => e = .returned (Win 1 (preC (cutN F 5)) (endC (cutN F 99))) ∧ Below w.heap.size w w' := by
  obtain ⟨T, hT⟩ : ∃ T, tot F = T := ⟨_, rfl⟩
  have hlt := h.1
  rw [hT] at hf hn hlt
  have HT := Lib.hid hT
  clear hT
  have hfi : decide ((T : Int) + (o : Int) < 4) = false := by simp; omega
  have hni : decide ((T : Int) + (o : Int) < 2 * (o : Int)) = false := by simp; omega
  have HS := Lib.hid hs
  clear hs
  go_enter Try.func14, Try.ntmps14
  go_wp2_with fail
  have hN := newW w
  have h1 := h.keep hN.2 h.lt
  have hR1 := hR.keep hN.2 hR.lt
  generalize w.alloc _ = w1 at hN h1 hR1 ⊢
  clear h hR
  refine (histo_over r _ _ _ h1).mono ?_
  rintro e w' ⟨rfl, rfl⟩
  go_wp2_with fail
  refine (histo_in r _ _ _ h1).mono ?_
  rintro e w' ⟨rfl, rfl⟩
  rw [HT.out]
  go_wp2_with fail
  refine (spread_any r _ _ _ h1).mono ?_
  rintro e w' ⟨rfl, j, rfl⟩
  rw [HS.out]
  have hN1 := hN.drewN j
  have h2 := h1.drewN j
  generalize w1.drewN j = w2 at hN1 h2 ⊢
  clear hN h1 hR1
  go_wp2_with fail
  refine (byCounts_any r _ _ _ h2).mono ?_
  rintro e w3 ⟨rfl, hb2⟩
  have hN2 := hN1.below hb2
  clear hN1 hb2 h2
  obtain ⟨p, hp⟩ : ∃ p, preC (cutN F 5) = p := ⟨_, rfl⟩
  obtain ⟨q, hq⟩ : ∃ q, endC (cutN F 99) = q := ⟨_, rfl⟩
  rw [hp, hq]
  have HP := Lib.hid hp
  have HQ := Lib.hid hq
  clear hp hq
  have HW := Lib.hid hN2.1
  go_wp2_with (with_reducible refine wpList_store_win rfl (.tmp 4) (.tmp 32) rfl w.heap.size 1 p q rfl rfl 0 0 0 HW ?_; intro w4 HG hg4)
  exact bodyPost_ret (ret_win (fn := Try.f14) rfl rfl HG) rfl ⟨by rw [HP.out, HQ.out], hN2.done hg4⟩

theorem of_any (r s o : Nat) (F : Nat → Nat) (ys : List Int) (w : World) (h : Hs w r F o) (hR : Rg w s ys) :
    Calls Try.prog 14 #[.pointer (some ⟨r, 0, none⟩), .pointer (some ⟨s, 0, none⟩)] w fun e w' => e = .returned (win F o ys) ∧ Below w.heap.size w w' := by
  by_cases h1 : tot F + o < 4
  · rw [win_few h1]; exact of_few r s o F ys w h hR h1
  by_cases h2 : tot F + o < 2 * o
  · rw [win_next (by omega) h2]; exact of_next r s o F ys w h hR (by omega) h2
  by_cases h3 : spreadB F = true
  · rw [win_hist (by omega) (by omega) h3]; exact of_hist r s o F ys w h hR (by omega) (by omega) h3
  · rw [win_not (by omega) (by omega) (by simpa using h3)]; exact of_not r s o F ys w h hR (by omega) (by omega) (by simpa using h3)
end Go.Proofs.Ytocnaopjefhbjaa.W
