/- Contracts of package quota: the sums of an account. -/
import Derived.Test.YtancebpkiioaiaaQuoA
import Derived.Deep.DeepCutAuto
import Derived.Deep.CutBlock
namespace Go.Proofs.Ytancebpkiioaiaa.W
open Go.RowKit

theorem sizeFn : (Try.prog.info? 73).map (·.size) = some 4 := by kernel_rfl
theorem sizeFns : (Try.prog.info? 74).map (·.size) = some 256 := by kernel_rfl
theorem sizeSums : (Try.prog.info? 78).map (·.size) = some 3 := by kernel_rfl
theorem row_kept {w w' : World} {q b : Nat} {o : Obj} (h : w.heap[q]? = some o) (hg : w.grownBy w' (some b)) (hne : q ≠ b) : w'.heap[q]? = some o := by
  rw [hg.block q (lt_of_row h) (by simpa using hne)]; exact h

/-- The functions of a ledger, by value. -/
def frow (A : Int → Option Nat) (F : Int → Option Fn) : List Value := (List.range 256).map (fun j => lc A F (32 + j))
theorem frow_len (A : Int → Option Nat) (F : Int → Option Fn) : (frow A F).length = 256 := by simp [frow]
theorem frow_at (A : Int → Option Nat) (F : Int → Option Fn) {j : Nat} (h : j < 256) : (frow A F)[j]? = some (lc A F (32 + j)) := by
  unfold frow; rw [List.getElem?_map, List.getElem?_range h]; rfl
theorem Lg.range {w : World} {l : Nat} {A : Int → Option Nat} {F : Int → Option Fn} (h : Lg w l A F) : w.rangeAt l 32 (frow A F) := by
  intro j v hv
  have hj : j < 256 := by have := (List.getElem?_eq_some_iff.1 hv).1; rwa [frow_len] at this
  rw [frow_at A F hj] at hv
  cases hv
  exact h.cell (by omega)
def fcell (v : Option Fn) : Array Value := #[.bool v.isSome, .int .i64 (((v.getD (0, 0, 0)).1 : Nat) : Int), .int .i64 (((v.getD (0, 0, 0)).2.1 : Nat) : Int), .int .i64 (((v.getD (0, 0, 0)).2.2 : Nat) : Int)]
theorem frow_cut (A : Int → Option Nat) (F : Int → Option Fn) {f : Nat} (h : f < 64) : (frow A F).toArray.extract (f * 4) (f * 4 + 4) = fcell (F (f : Int)) := by
  have h0 := frow_at A F (j := f * 4) (by omega)
  have h1 := frow_at A F (j := f * 4 + 1) (by omega)
  have h2 := frow_at A F (j := f * 4 + 2) (by omega)
  have h3 := frow_at A F (j := f * 4 + 3) (by omega)
  rw [lc_f0] at h0
  rw [← Nat.add_assoc, lc_f1] at h1
  rw [← Nat.add_assoc, lc_f2] at h2
  rw [← Nat.add_assoc, lc_f3] at h3
  have hl := frow_len A F
  apply Array.ext_getElem?
  intro j
  rw [Array.getElem?_extract]
  simp only [List.getElem?_toArray, List.size_toArray, hl]
  rcases (show j = 0 ∨ j = 1 ∨ j = 2 ∨ j = 3 ∨ 4 ≤ j by omega) with rfl | rfl | rfl | rfl | hj
  · rw [if_pos (by omega), Nat.add_zero, h0]; rfl
  · rw [if_pos (by omega), h1]; rfl
  · rw [if_pos (by omega), h2]; rfl
  · rw [if_pos (by omega), h3]; rfl
  · rw [if_neg (by omega), Array.getElem?_eq_none (by simpa [fcell] using hj)]

abbrev Sums (p q o : Nat) : Value := .agg #[.int .i64 (p : Int), .int .i64 (q : Int), .int .i64 (o : Int)]
theorem wpList_store_sums {w : World} {ops : Array Oper} {rest : List Oper} {o : Oper} {a : Act} {Q : Exit → Act → World → Prop} (hgd : o.guard = none) (x y : Operand) (ho : o.op = .store 78 x y)
    (g : Nat) (h p e : Nat) (hx : a.eval x = .pointer (some ⟨g, 0, none⟩)) (hy : a.eval y = Sums h p e) (i j k : Nat)
    (HG : Hid (w.heap[g]? = some (.cells [Value.int .i64 (i : Int), .int .i64 (j : Int), .int .i64 (k : Int)].toArray 78 (0, 0))))
    (hn : ∀ w', Hid (w'.heap[g]? = some (.cells #[.int .i64 (h : Int), .int .i64 (p : Int), .int .i64 (e : Int)] 78 (0, 0))) → w.grownBy w' (some g) → wpList Try.prog ops Q rest (a.put o.dst undef) w') : wpList Try.prog ops Q (o :: rest) a w := by
  refine wpList_store_row hgd _ x y ho g _ hx hy _ _ HG.out sizeSums rfl (by simp [Value.oneCell']) ?_
  exact hn _ (show _ = _ from setRow_heap w g _ _ _ _ HG.out) ⟨rfl, rfl, rfl, by simp [World.setRow], fun k _ hk => setRow_other w g k _ (by intro e; exact hk (by rw [e]))⟩
theorem ret_sums {g : Nat} {h p e : Nat} {w : World} {fn : Func} {t : Tmp} {tmps : Array Value} (hf : fn.results = #[.cell t 78]) (ht : tmps.getD t undef = .pointer (some ⟨g, 0, none⟩))
    (HG : Hid (w.heap[g]? = some (.cells #[.int .i64 (h : Int), .int .i64 (p : Int), .int .i64 (e : Int)] 78 (0, 0)))) : (results fn tmps).run Try.prog w = .ok (Sums h p e) w :=
  results_cell_row hf tmps w g _ _ _ _ ht HG.out Try.underlying78 rfl sizeSums

/-- The blocks of a sum that is under way. -/
structure Sm (w wr : World) (s t p q o : Nat) : Prop where
  res : wr.heap[s]? = some (.cells [Value.int .i64 ((0 : Nat) : Int), .int .i64 ((0 : Nat) : Int), .int .i64 ((0 : Nat) : Int)].toArray 78 (0, 0))
  all : wr.heap[t]? = some (.cells [Value.int .i64 (p : Int), .int .i64 (q : Int), .int .i64 (o : Int)].toArray 78 (0, 0))
  bel : Below w.heap.size w wr
theorem Sm.below {w wr w' : World} {s t p q o : Nat} (h : Sm w wr s t p q o) (hb : Below wr.heap.size wr w') : Sm w w' s t p q o :=
  ⟨by rw [hb.block s (lt_of_row h.res)]; exact h.res, by rw [hb.block t (lt_of_row h.all)]; exact h.all, h.bel.trans (hb.mono h.bel.size)⟩
theorem Sm.put {w wr w' : World} {s t p q o p' q' o' : Nat} (h : Sm w wr s t p q o) (hs : s ≠ t) (ht : w.heap.size ≤ t) (hg : wr.grownBy w' (some t)) (hr : w'.heap[t]? = some (.cells [Value.int .i64 (p' : Int), .int .i64 (q' : Int), .int .i64 (o' : Int)].toArray 78 (0, 0))) : Sm w w' s t p' q' o' :=
  ⟨row_kept h.res hg hs, hr, below_row h.bel ht hg h.bel.size⟩

set_option maxRecDepth 100000 in
set_option maxHeartbeats 3200000 in
theorem l_sum (l : Nat) (A : Int → Option Nat) (F : Int → Option Fn) (a : Int) (w : World) (h : Lg w l A F) :
    Calls Try.prog 37 #[.pointer (some ⟨l, 0, none⟩), .int .i64 a] w fun e w' => e = .returned (Sums (sR F a) (sB F a) (sO F a)) ∧ Below w.heap.size w w' := by
  obtain ⟨w0, hw0⟩ : ∃ w0, w0 = (w.alloc (.cells #[Value.int .i64 0, .int .i64 0, .int .i64 0] 78)).alloc (.cells #[Value.int .i64 0, .int .i64 0, .int .i64 0] 78) := ⟨_, rfl⟩
  have b0 : Below w.heap.size w w0 := by rw [hw0]; exact ((Below.refl _ _).alloc (Nat.le_refl _) _).alloc (by simp) _
  have h0 : Lg w0 l A F := h.keep b0 h.lt
  have hS : Sm w w0 w.heap.size (w.heap.size + 1) 0 0 0 := by
    refine ⟨?_, ?_, b0⟩
    · rw [hw0, Below.heap_alloc _ _ _ (by simp)]; exact heap_alloc_new _ _
    · rw [hw0]; have := heap_alloc_new (w.alloc (.cells #[Value.int .i64 0, .int .i64 0, .int .i64 0] 78)) (.cells #[Value.int .i64 0, .int .i64 0, .int .i64 0] 78); rw [World.size_alloc] at this; exact this
  have hR := Lib.hid h0.range
  have ab := Lib.hid h.ab
  obtain ⟨C, hC⟩ : ∃ C, frow A F = C := ⟨_, rfl⟩
  have HC := Lib.hid hC
  have hRC : Hid (w0.rangeAt l 32 C) := by rw [← hC]; exact hR
  have hCl : Hid ((Try.prog.info? 74).map (·.size) = some C.length) := Lib.hid (by rw [← hC, frow_len]; exact sizeFns)
  have HW0 := Lib.hid hw0
  clear hC hw0 h h0 hR b0
  go_enter Try.func37, Try.ntmps37
  go_upto_region 2 with (fail)
  rw [← HW0.out]
  have hst : w.heap.size ≠ w.heap.size + 1 := by omega
  have hlt : w.heap.size ≤ w.heap.size + 1 := by omega
  obtain ⟨t, ht⟩ : ∃ t, w.heap.size + 1 = t := ⟨_, rfl⟩
  rw [ht] at hS hst hlt
  rw [ht]
  obtain ⟨s, hs⟩ : ∃ s, w.heap.size = s := ⟨_, rfl⟩
  rw [hs] at hS hst
  rw [hs]
  have HS := Lib.hid hs
  clear hs ht
  go_wp2_with (with_reducible refine wpList_load_mid rfl 74 (.tmp 10) rfl l 32 rfl C _ hRC.out Try.underlying74 rfl hCl.out ?_)
  go_loopg [12] 64 (fun gk vi wr => ∃ i : Nat, vi = .int .i64 (i : Int) ∧ i + gk = 64 ∧ Sm w wr s t (sumN (gR F a) i) (sumN (gB F a) i) (sumN (gO F a) i))
  case atStart => exact ⟨0, rfl, rfl, hS⟩
  case round =>
    clear hS
    obtain ⟨i, rfl, hik, hz⟩ := hrel
    have HIK := Lib.hid hik
    by_cases hi : i < 64
    · have hii : (i : Int) < 64 := by omega
      clear hik
      have hcut := frow_cut A F hi
      rw [HC.out] at hcut
      cases hv : F (i : Int) with
      | none =>
        rw [hv] at hcut
        have HCUT : Hid (C.toArray.extract (i * 4) (i * 4 + 4) = #[.bool false, .int .i64 0, .int .i64 0, .int .i64 0]) := hcut
        have e1 : sumN (gR F a) (i + 1) = sumN (gR F a) i := by rw [sumN, gR_none hv]; rfl
        have e2 : sumN (gB F a) (i + 1) = sumN (gB F a) i := by rw [sumN, gB_none hv]; rfl
        have e3 : sumN (gO F a) (i + 1) = sumN (gO F a) i := by rw [sumN, gO_none hv]; rfl
        rw [← e1, ← e2, ← e3] at hz
        clear hcut e1 e2 e3 hv
        go_upto_region 5 with (with_reducible refine wpList_index_row rfl 74 (.tmp 11) (.tmp 12) rfl 64 73 Try.underlying74 _ Try.underlying73 rfl 4 sizeFn C rfl .i64 i rfl hi _ HCUT.out ?_)
        have hb3 : Below wr.heap.size wr (wr.alloc (.cells #[.bool false, .int .i64 0, .int .i64 0, .int .i64 0] 73)) := (Below.refl _ _).alloc (Nat.le_refl _) _
        have hz3 := hz.below hb3
        have HQ := Lib.hid (heap_alloc_new wr (.cells #[.bool false, .int .i64 0, .int .i64 0, .int .i64 0] 73))
        have hqt : wr.heap.size ≠ t := by have := lt_of_row hz.all; omega
        obtain ⟨qa, hqa⟩ : ∃ q, wr.heap.size = q := ⟨_, rfl⟩
        rw [hqa] at HQ hqt
        rw [hqa]
        clear hqa hb3 hz
        generalize wr.alloc (.cells #[.bool false, .int .i64 0, .int .i64 0, .int .i64 0] 73) = w3 at hz3 HQ ⊢
        have y0 := cell_of_row _ _ 0 _ _ _ HQ.out
        have y1 := cell_of_row _ _ 1 _ _ _ HQ.out
        have y2 := cell_of_row _ _ 2 _ _ _ HQ.out
        have y3 := cell_of_row _ _ 3 _ _ _ HQ.out
        go_wp2_with fail
        go_roundg (gk - 1)
        case measure => have := HIK.out; omega
        case rel => exact ⟨i + 1, by go_num, by have := HIK.out; omega, hz3⟩
      | some v =>
        obtain ⟨o, r, b⟩ := v
        rw [hv] at hcut
        have HCUT : Hid (C.toArray.extract (i * 4) (i * 4 + 4) = #[.bool true, .int .i64 (o : Int), .int .i64 (r : Int), .int .i64 (b : Int)]) := hcut
        have hbd := ab.out.f0 _ _ _ _ hv
        have HV := Lib.hid hv
        have hoI : (o : Int) < 16 := by omega
        have hrI : (r : Int) ≤ 1000 := by omega
        have hbI : (b : Int) ≤ 1000 := by omega
        clear hcut hv hbd
        by_cases hoa : (o : Int) = a
        · have hp1 := sumN_bound (ab.out.gR a) i
          have hp2 := sumN_bound (ab.out.gB a) i
          have hp3 := sumN_bound (ab.out.gO a) i
          have hpI : (sumN (gR F a) i : Int) ≤ 64000 := by omega
          have hqI : (sumN (gB F a) i : Int) ≤ 64000 := by omega
          have hsI : (sumN (gO F a) i : Int) ≤ 64000 := by omega
          have e1 : sumN (gR F a) (i + 1) = sumN (gR F a) i + r := by rw [sumN, gR_some HV.out, if_pos hoa]
          have e2 : sumN (gB F a) (i + 1) = sumN (gB F a) i + b := by rw [sumN, gB_some HV.out, if_pos hoa]
          have e3 : sumN (gO F a) (i + 1) = sumN (gO F a) i + if r = 0 then b else 0 := by rw [sumN, gO_some HV.out]; simp only [hoa, true_and]
          obtain ⟨p, hp⟩ : ∃ p, sumN (gR F a) i = p := ⟨_, rfl⟩
          obtain ⟨q, hq⟩ : ∃ q, sumN (gB F a) i = q := ⟨_, rfl⟩
          obtain ⟨u, hu⟩ : ∃ u, sumN (gO F a) i = u := ⟨_, rfl⟩
          rw [hp] at hz hpI e1
          rw [hq] at hz hqI e2
          rw [hu] at hz hsI e3
          have E1 := Lib.hid e1
          have E2 := Lib.hid e2
          have E3 := Lib.hid e3
          have hoa' : ((o : Int) == a) = true := by simpa using hoa
          have HOA := Lib.hid hoa
          clear hp1 hp2 hp3 hp hq hu e1 e2 e3 hoa
          go_upto_region 5 with (with_reducible refine wpList_index_row rfl 74 (.tmp 11) (.tmp 12) rfl 64 73 Try.underlying74 _ Try.underlying73 rfl 4 sizeFn C rfl .i64 i rfl hi _ HCUT.out ?_)
          have hb3 : Below wr.heap.size wr (wr.alloc (.cells #[.bool true, .int .i64 (o : Int), .int .i64 (r : Int), .int .i64 (b : Int)] 73)) := (Below.refl _ _).alloc (Nat.le_refl _) _
          have hz3 := hz.below hb3
          have HQ := Lib.hid (heap_alloc_new wr (.cells #[.bool true, .int .i64 (o : Int), .int .i64 (r : Int), .int .i64 (b : Int)] 73))
          have hqt : wr.heap.size ≠ t := by have := lt_of_row hz.all; omega
          obtain ⟨qa, hqa⟩ : ∃ q, wr.heap.size = q := ⟨_, rfl⟩
          rw [hqa] at HQ hqt
          rw [hqa]
          clear hqa hb3 hz
          generalize wr.alloc (.cells #[.bool true, .int .i64 (o : Int), .int .i64 (r : Int), .int .i64 (b : Int)] 73) = w3 at hz3 HQ ⊢
          have y0 := cell_of_row _ _ 0 _ _ _ HQ.out
          have y1 := cell_of_row _ _ 1 _ _ _ HQ.out
          have y2 := cell_of_row _ _ 2 _ _ _ HQ.out
          have y3 := cell_of_row _ _ 3 _ _ _ HQ.out
          have k0 := cellL hz3.all 0 _ rfl
          have k1 := cellL hz3.all 1 _ rfl
          have k2 := cellL hz3.all 2 _ rfl
          have HZ := Lib.hid hz3
          have HA3 := Lib.hid hz3.all
          clear hz3
          by_cases hr0 : r = 0
          · subst hr0
            go_wp2_with (first
              | (with_reducible refine wpList_store_in rfl 3 (.tmp 29) (.tmp 28) rfl (by kernel_rfl) t 0 rfl .i64 ((p : Int)) rfl _ _ HA3.out (by simp) ?_; intro w4 Hw4 gw4; have kw40 := cellL Hw4.out 0 _ rfl; have kw41 := cellL Hw4.out 1 _ rfl; have kw42 := cellL Hw4.out 2 _ rfl; have Qw4 := Lib.hid (row_kept HQ.out gw4 hqt); have zw42 := cell_of_row _ _ 2 _ _ _ Qw4.out; have zw43 := cell_of_row _ _ 3 _ _ _ Qw4.out)
              | (with_reducible refine wpList_store_in rfl 3 (.tmp 29) (.tmp 28) rfl (by kernel_rfl) t 0 rfl .i64 ((p : Int) + ((0 : Nat) : Int)) rfl _ _ HA3.out (by simp) ?_; intro w4 Hw4 gw4; have kw40 := cellL Hw4.out 0 _ rfl; have kw41 := cellL Hw4.out 1 _ rfl; have kw42 := cellL Hw4.out 2 _ rfl; have Qw4 := Lib.hid (row_kept HQ.out gw4 hqt); have zw42 := cell_of_row _ _ 2 _ _ _ Qw4.out; have zw43 := cell_of_row _ _ 3 _ _ _ Qw4.out)
              | (with_reducible refine wpList_store_in rfl 3 (.tmp 35) (.tmp 34) rfl (by kernel_rfl) t 1 rfl .i64 ((q : Int) + (b : Int)) rfl _ _ Hw4.out (by simp) ?_; intro w5 Hw5 gw5; have kw50 := cellL Hw5.out 0 _ rfl; have kw51 := cellL Hw5.out 1 _ rfl; have kw52 := cellL Hw5.out 2 _ rfl; have Qw5 := Lib.hid (row_kept Qw4.out gw5 hqt); have zw52 := cell_of_row _ _ 2 _ _ _ Qw5.out; have zw53 := cell_of_row _ _ 3 _ _ _ Qw5.out)
              | (with_reducible refine wpList_store_in rfl 3 (.tmp 44) (.tmp 43) rfl (by kernel_rfl) t 2 rfl .i64 ((u : Int) + (b : Int)) rfl _ _ Hw5.out (by simp) ?_; intro w6 Hw6 gw6; have kw60 := cellL Hw6.out 0 _ rfl; have kw61 := cellL Hw6.out 1 _ rfl; have kw62 := cellL Hw6.out 2 _ rfl; have Qw6 := Lib.hid (row_kept Qw5.out gw6 hqt); have zw62 := cell_of_row _ _ 2 _ _ _ Qw6.out; have zw63 := cell_of_row _ _ 3 _ _ _ Qw6.out))
            have g6 := grown_trans (grown_trans gw4 gw5) gw6
            have hN : Sm w w6 s t p (q + b) (u + b) := HZ.out.put hst hlt g6 (by rw [Hw6.out]; simp)
            go_roundg (gk - 1)
            case measure => have := HIK.out; omega
            case rel => exact ⟨i + 1, by go_num, by have := HIK.out; omega, by rw [E1.out, E2.out, E3.out]; exact hN⟩
          · have hr1 : ((r : Int) == 0) = false := by simp; omega
            go_wp2_with (first
              | (with_reducible refine wpList_store_in rfl 3 (.tmp 29) (.tmp 28) rfl (by kernel_rfl) t 0 rfl .i64 ((p : Int) + (r : Int)) rfl _ _ HA3.out (by simp) ?_; intro w4 Hw4 gw4; have kw40 := cellL Hw4.out 0 _ rfl; have kw41 := cellL Hw4.out 1 _ rfl; have kw42 := cellL Hw4.out 2 _ rfl; have Qw4 := Lib.hid (row_kept HQ.out gw4 hqt); have zw42 := cell_of_row _ _ 2 _ _ _ Qw4.out; have zw43 := cell_of_row _ _ 3 _ _ _ Qw4.out)
              | (with_reducible refine wpList_store_in rfl 3 (.tmp 35) (.tmp 34) rfl (by kernel_rfl) t 1 rfl .i64 ((q : Int) + (b : Int)) rfl _ _ Hw4.out (by simp) ?_; intro w5 Hw5 gw5; have kw50 := cellL Hw5.out 0 _ rfl; have kw51 := cellL Hw5.out 1 _ rfl; have kw52 := cellL Hw5.out 2 _ rfl; have Qw5 := Lib.hid (row_kept Qw4.out gw5 hqt); have zw52 := cell_of_row _ _ 2 _ _ _ Qw5.out; have zw53 := cell_of_row _ _ 3 _ _ _ Qw5.out))
            have g6 := grown_trans gw4 gw5
            have hN : Sm w w5 s t (p + r) (q + b) u := HZ.out.put hst hlt g6 (by rw [Hw5.out]; simp)
            go_roundg (gk - 1)
            case measure => have := HIK.out; omega
            case rel => exact ⟨i + 1, by go_num, by have := HIK.out; omega, by rw [E1.out, E2.out, E3.out, if_neg hr0]; exact hN⟩
        · have hoa' : ((o : Int) == a) = false := by simpa using hoa
          have e1 : sumN (gR F a) (i + 1) = sumN (gR F a) i := by rw [sumN, gR_some HV.out, if_neg hoa]; rfl
          have e2 : sumN (gB F a) (i + 1) = sumN (gB F a) i := by rw [sumN, gB_some HV.out, if_neg hoa]; rfl
          have e3 : sumN (gO F a) (i + 1) = sumN (gO F a) i := by rw [sumN, gO_some HV.out, if_neg (fun q => hoa q.1)]; rfl
          rw [← e1, ← e2, ← e3] at hz
          clear e1 e2 e3 hoa
          go_upto_region 5 with (with_reducible refine wpList_index_row rfl 74 (.tmp 11) (.tmp 12) rfl 64 73 Try.underlying74 _ Try.underlying73 rfl 4 sizeFn C rfl .i64 i rfl hi _ HCUT.out ?_)
          have hb3 : Below wr.heap.size wr (wr.alloc (.cells #[.bool true, .int .i64 (o : Int), .int .i64 (r : Int), .int .i64 (b : Int)] 73)) := (Below.refl _ _).alloc (Nat.le_refl _) _
          have hz3 := hz.below hb3
          have HQ := Lib.hid (heap_alloc_new wr (.cells #[.bool true, .int .i64 (o : Int), .int .i64 (r : Int), .int .i64 (b : Int)] 73))
          have hqt : wr.heap.size ≠ t := by have := lt_of_row hz.all; omega
          obtain ⟨qa, hqa⟩ : ∃ q, wr.heap.size = q := ⟨_, rfl⟩
          rw [hqa] at HQ hqt
          rw [hqa]
          clear hqa hb3 hz
          generalize wr.alloc (.cells #[.bool true, .int .i64 (o : Int), .int .i64 (r : Int), .int .i64 (b : Int)] 73) = w3 at hz3 HQ ⊢
          have y0 := cell_of_row _ _ 0 _ _ _ HQ.out
          have y1 := cell_of_row _ _ 1 _ _ _ HQ.out
          have y2 := cell_of_row _ _ 2 _ _ _ HQ.out
          have y3 := cell_of_row _ _ 3 _ _ _ HQ.out
          go_wp2_with fail
          go_roundg (gk - 1)
          case measure => have := HIK.out; omega
          case rel => exact ⟨i + 1, by go_num, by have := HIK.out; omega, hz3⟩
    · obtain rfl : i = 64 := by omega
      clear hik HIK hi
      have k0 := cellL hz.all 0 _ rfl
      have k1 := cellL hz.all 1 _ rfl
      have k2 := cellL hz.all 2 _ rfl
      have HRS := Lib.hid hz.res
      obtain ⟨p, hp⟩ : ∃ p, sumN (gR F a) 64 = p := ⟨_, rfl⟩
      obtain ⟨q, hq⟩ : ∃ q, sumN (gB F a) 64 = q := ⟨_, rfl⟩
      obtain ⟨u, hu⟩ : ∃ u, sumN (gO F a) 64 = u := ⟨_, rfl⟩
      rw [hp] at hz k0
      rw [hq] at hz k1
      rw [hu] at hz k2
      have HZ := Lib.hid hz
      have HP := Lib.hid hp
      have HQ := Lib.hid hq
      have HU := Lib.hid hu
      clear hz hp hq hu
      go_wp2_with (with_reducible refine wpList_store_sums rfl (.tmp 4) (.tmp 46) rfl s p q u rfl rfl 0 0 0 HRS ?_; intro w4 HG hg4)
      refine bodyPost_ret (ret_sums (fn := Try.f37) rfl rfl HG) rfl ⟨?_, ?_⟩
      · unfold sR sB sO; rw [HP.out, HQ.out, HU.out]
      · exact below_row HZ.out.bel (Nat.le_of_eq HS.out) hg4 HZ.out.bel.size

end Go.Proofs.Ytancebpkiioaiaa.W
