/- Contracts of package quota: Account, Ask. -/
import Derived.Test.YtancebpkiioaiaaQuoC
namespace Go.Proofs.Ytancebpkiioaiaa.W
open Go.RowKit

/-- The block of sums, new. -/
theorem sums_new (w : World) (p q u : Nat) : (w.alloc (.cells #[.int .i64 (p : Int), .int .i64 (q : Int), .int .i64 (u : Int)] 78)).heap[w.heap.size]? = some (.cells #[.int .i64 (p : Int), .int .i64 (q : Int), .int .i64 (u : Int)] 78 (0, 0)) := heap_alloc_new _ _

set_option maxRecDepth 100000 in
set_option maxHeartbeats 1600000 in
theorem l_acc0 (l : Nat) (A : Int → Option Nat) (F : Int → Option Fn) (x : Int) (w : World) (h : Lg w l A F) (hA : A x = none) :
    Calls Try.prog 32 #[.pointer (some ⟨l, 0, none⟩), .int .i64 x] w fun e w' => e = .returned (.tuple #[.int .i64 0, .int .i64 0, .int .i64 0, .bool false]) ∧ w = w' := by
  cases hx : isA x with
  | false =>
    have HX := Lib.hid hx
    clear hx h hA
    go_enter Try.func32, Try.ntmps32
    go_wp2_with fail
    refine (isA_any _ _).mono ?_
    rintro e w' ⟨rfl, rfl⟩
    rw [HX.out]
    go_wp2
    refine bodyPost_ret (v := .tuple _) (by simp [results, Try.results32, go_sem]; rfl) rfl ?_
    exact ⟨rfl, rfl⟩
  | true =>
    have HX := Lib.hid hx
    obtain ⟨a, rfl, ha⟩ := isA_nat hx
    have c := h.a0 ha
    rw [hA] at c
    have c' : w.cell? ⟨l, a * 2, none⟩ = some (.bool false) := c
    have haI : (a : Int) < 16 := by omega
    clear hx h hA c
    go_enter Try.func32, Try.ntmps32
    go_wp2_with fail
    refine (isA_any _ _).mono ?_
    rintro e w' ⟨rfl, rfl⟩
    rw [HX.out]
    go_wp2
    refine bodyPost_ret (v := .tuple _) (by simp [results, Try.results32, go_sem]; rfl) rfl ?_
    exact ⟨rfl, rfl⟩

set_option maxRecDepth 100000 in
set_option maxHeartbeats 1600000 in
theorem l_acc (l : Nat) (A : Int → Option Nat) (F : Int → Option Fn) (x : Int) (lim : Nat) (w : World) (h : Lg w l A F) (hA : A x = some lim) :
    Calls Try.prog 32 #[.pointer (some ⟨l, 0, none⟩), .int .i64 x] w fun e w' => e = .returned (.tuple #[.int .i64 (lim : Int), .int .i64 (sR F x : Int), .int .i64 (sB F x : Int), .bool true]) ∧ Below w.heap.size w w' := by
  have H := Lib.hid h
  have hbd := h.ab.a0 _ _ hA
  obtain ⟨a, rfl⟩ : ∃ a : Nat, x = (a : Int) := ⟨x.toNat, by omega⟩
  have ha : a < 16 := by omega
  have haI : (a : Int) < 16 := by omega
  have hx : isA (a : Int) = true := isA_iff.2 (by omega)
  have c := h.a0 ha
  rw [hA] at c
  have c' : w.cell? ⟨l, a * 2, none⟩ = some (.bool true) := c
  have HX := Lib.hid hx
  have HA := Lib.hid hA
  have hl := h.lt
  obtain ⟨p, hp⟩ : ∃ p, sR F (a : Int) = p := ⟨_, rfl⟩
  obtain ⟨q, hq⟩ : ∃ q, sB F (a : Int) = q := ⟨_, rfl⟩
  obtain ⟨u, hu⟩ : ∃ u, sO F (a : Int) = u := ⟨_, rfl⟩
  rw [hp, hq]
  have HP := Lib.hid hp
  have HQ := Lib.hid hq
  have HU := Lib.hid hu
  clear hx h hA c hbd hp hq hu
  go_enter Try.func32, Try.ntmps32
  go_wp2_with fail
  refine (isA_any _ _).mono ?_
  rintro e w' ⟨rfl, rfl⟩
  rw [HX.out]
  go_wp2_with fail
  refine (l_sum l A F _ _ H.out).mono ?_
  rintro e w1 ⟨rfl, b1⟩
  rw [HP.out, HQ.out, HU.out]
  have H1 := Lib.hid (H.out.keep b1 hl)
  clear c'
  go_upto_region 4 with (fail)
  have hb3 : Below w1.heap.size w1 (w1.alloc (.cells #[.int .i64 (p : Int), .int .i64 (q : Int), .int .i64 (u : Int)] 78)) := (Below.refl _ _).alloc (Nat.le_refl _) _
  have H3 := Lib.hid (H1.out.keep hb3 H1.out.lt)
  have hq3 := sums_new w1 p q u
  have b3 := b1.trans (hb3.mono b1.size)
  obtain ⟨qa, hqa⟩ : ∃ q, w1.heap.size = q := ⟨_, rfl⟩
  rw [hqa] at hq3
  rw [hqa]
  clear hqa hb3 b1
  generalize w1.alloc (.cells #[.int .i64 (p : Int), .int .i64 (q : Int), .int .i64 (u : Int)] 78) = w3 at H3 hq3 b3 ⊢
  have y0 := cell_of_row _ _ 0 _ _ _ hq3
  have y1 := cell_of_row _ _ 1 _ _ _ hq3
  have c := H3.out.a1 ha
  rw [HA.out] at c
  have c' : w3.cell? ⟨l, a * 2 + 1, none⟩ = some (.int .i64 (lim : Int)) := c
  clear c hq3
  go_quiet (fail)
  go_wp2
  refine bodyPost_ret (v := .tuple _) (by simp [results, Try.results32, go_sem]; rfl) rfl ?_
  exact ⟨rfl, below_drewN b3 _⟩

theorem ask_none {A : Int → Option Nat} {F : Int → Option Fn} {x : Int} (h : F x = none) : askC A F x = (0, false) := by unfold askC; rw [h]
theorem ask_some {A : Int → Option Nat} {F : Int → Option Fn} {x : Int} {o r b : Nat} (h : F x = some (o, r, b)) : askC A F x = if 0 < r ∧ r ≤ b then (1, true) else
      if ((A (o : Int)).getD 0 : Nat) ≤ sB F (o : Int) ∨ (r = 0 ∧ ((A (o : Int)).getD 0 : Nat) ≤ sO F (o : Int) + sR F (o : Int)) then (2, true) else (0, true) := by unfold askC; rw [h]

set_option maxRecDepth 100000 in
set_option maxHeartbeats 1600000 in
theorem l_ask0 (l : Nat) (A : Int → Option Nat) (F : Int → Option Fn) (x : Int) (w : World) (h : Lg w l A F) (hF : F x = none) :
    Calls Try.prog 29 #[.pointer (some ⟨l, 0, none⟩), .int .i64 x] w fun e w' => e = .returned (.tuple #[.int .i64 ((askC A F x).1 : Int), .bool (askC A F x).2]) ∧ Below w.heap.size w w' := by
  rw [ask_none hF]
  have H := Lib.hid h
  have HF := Lib.hid hF
  clear h hF
  go_enter Try.func29, Try.ntmps29
  go_wp2_with fail
  refine (l_has l A F x _ H.out).mono ?_
  rintro e w' ⟨rfl, rfl⟩
  rw [HF.out]
  go_wp2
  go_ret2
  exact ⟨rfl, Below.refl _ _⟩

theorem keep_ask {g l k : Nat} {w6 w1 w2 : World} {o r m : Int} (hS : w1.cell? ⟨g, 1, none⟩ = some (.int .i64 o) ∧ w1.cell? ⟨g, 2, none⟩ = some (.int .i64 r) ∧ w1.cell? ⟨l, k, none⟩ = some (.int .i64 m) ∧ Below w6.heap.size w6 w1) (hb : Below w1.heap.size w1 w2) :
    w2.cell? ⟨g, 1, none⟩ = some (.int .i64 o) ∧ w2.cell? ⟨g, 2, none⟩ = some (.int .i64 r) ∧ w2.cell? ⟨l, k, none⟩ = some (.int .i64 m) ∧ Below w6.heap.size w6 w2 := by
  obtain ⟨a, b, c, d⟩ := hS
  have hl : g < w1.heap.size := cell_lt a
  have hl' : l < w1.heap.size := cell_lt c
  exact ⟨by rw [hb.cell hl]; exact a, by rw [hb.cell hl]; exact b, by rw [hb.cell hl']; exact c, d.trans (hb.mono d.size)⟩
theorem below_ask {g l k : Nat} {w6 w1 : World} {o r m : Int} (hS : w1.cell? ⟨g, 1, none⟩ = some (.int .i64 o) ∧ w1.cell? ⟨g, 2, none⟩ = some (.int .i64 r) ∧ w1.cell? ⟨l, k, none⟩ = some (.int .i64 m) ∧ Below w6.heap.size w6 w1) : Below w6.heap.size w6 w1 := hS.2.2.2

set_option maxRecDepth 100000 in
set_option maxHeartbeats 1600000 in
theorem l_ask1 (l : Nat) (A : Int → Option Nat) (F : Int → Option Fn) (x : Int) (w : World) (h : Lg w l A F) (o r b : Nat) (hF : F x = some (o, r, b)) (hr : 0 < r) (hb : r ≤ b) :
    Calls Try.prog 29 #[.pointer (some ⟨l, 0, none⟩), .int .i64 x] w fun e w' => e = .returned (.tuple #[.int .i64 ((askC A F x).1 : Int), .bool (askC A F x).2]) ∧ Below w.heap.size w w' := by
  rw [ask_some hF, if_pos ⟨hr, hb⟩]
  have H := Lib.hid h
  have hbd := h.ab.f0 _ _ _ _ hF
  obtain ⟨f, rfl⟩ : ∃ f : Nat, x = (f : Int) := ⟨x.toNat, by omega⟩
  have hfi : (f : Int) < 64 := by omega
  have f0 := h.f0 (f := f) (by omega)
  have f1 := h.f1 (f := f) (by omega)
  have f2 := h.f2 (f := f) (by omega)
  have f3 := h.f3 (f := f) (by omega)
  rw [hF] at f0 f1 f2 f3
  have f0' : w.cell? ⟨l, 32 + f * 4, none⟩ = some (.bool true) := f0
  have f1' : w.cell? ⟨l, 32 + f * 4 + 1, none⟩ = some (.int .i64 (o : Int)) := f1
  have f2' : w.cell? ⟨l, 32 + f * 4 + 2, none⟩ = some (.int .i64 (r : Int)) := f2
  have f3' : w.cell? ⟨l, 32 + f * 4 + 3, none⟩ = some (.int .i64 (b : Int)) := f3
  have HF := Lib.hid hF
  clear h hF f0 f1 f2 f3 hbd
  go_enter Try.func29, Try.ntmps29
  go_wp2_with fail
  refine (l_has l A F _ _ H.out).mono ?_
  rintro e w' ⟨rfl, rfl⟩
  rw [HF.out]
  go_wp2
  go_ret2
  refine ⟨?_, (Below.refl _ _).alloc (Nat.le_refl _) _⟩
  rfl

end Go.Proofs.Ytancebpkiioaiaa.W
