/- Contracts of a Reader's Num and Flag, and of wire.Flag. -/
import Derived.Test.YtkfhgdnlieaedaaWireC
namespace Go.Proofs.Ytkfhgdnlieaedaa.W
open Go.RowKit

theorem ret_u64 {a b : Nat} (h : a = b) : Ending.returned (.int .u64 (a : Int)) = .returned (.int .u64 (b : Int)) := by rw [h]
theorem ret_zero {b : Nat} (h : b = 0) : Ending.returned (.int .u64 0) = .returned (.int .u64 (b : Int)) := by rw [h]; rfl
theorem sliced_lies {w : World} {r : Nat} {A : Option Addr} {bs : List Nat} {a k c : Nat} (h : Lies w r A (bs.map bv)) (hk : bs.length = k) (hc : k ≤ c) :
    Lies w r (if c = a then A else A.map (·.add a)) ((bs.drop a).map bv) := by
  rw [List.map_drop]
  refine h.drop a _ fun hlt => ?_
  rw [List.length_map] at hlt
  rw [if_neg (by omega)]

theorem rd_err {w : World} {r nq k a c er a' er' : Nat} {A : Option Addr} {bs : List Nat} {q : Int} (h1 : w.heap[r]? = some (.cells #[.slice A k c, .int .i64 (a : Int), .int .i64 (er : Int)] 59 (0, 0)))
    (hA : Lies w r A (bs.map bv)) (hk : bs.length = k) (hc : k ≤ c) (ha : a ≤ k) (hl : k ≤ 1000000000) (hb : ∀ x ∈ bs, x < 256) (ea : a' = a) (ee : er' = q.toNat) (hq : 0 ≤ q := by decide) :
    Rd ((w.drewN nq).setCell ⟨r, 2, none⟩ (.int .i64 q)) r bs a' er' := by
  subst ea
  obtain ⟨q, rfl⟩ := Int.eq_ofNat_of_zero_le hq
  subst hk
  simp at ee
  subst ee
  refine ⟨A, c, ?_, lies_set hA _ _ _, hc, ha, hl, hb⟩
  rw [set_row (w := w.drewN nq) h1]; rfl
theorem rd_on {w : World} {r nq k a c er a' er' f : Nat} {A : Option Addr} {bs : List Nat} (h1 : w.heap[r]? = some (.cells #[.slice A k c, .int .i64 (a : Int), .int .i64 (er : Int)] 59 (0, 0)))
    (hA : Lies w r A (bs.map bv)) (hk : bs.length = k) (hc : k ≤ c) (ha : a + f ≤ k) (hl : k ≤ 1000000000) (hb : ∀ x ∈ bs, x < 256) (ea : a' = a + f) (ee : er' = er) :
    Rd ((w.drewN nq).setCell ⟨r, 1, none⟩ (.int .i64 ((a : Int) + (f : Int)))) r bs a' er' := by
  subst ea
  subst ee
  subst hk
  refine ⟨A, c, ?_, lies_set hA _ _ _, hc, ha, hl, hb⟩
  rw [set_row (w := w.drewN nq) h1]; rfl

set_option maxRecDepth 100000 in
set_option maxHeartbeats 800000 in
theorem num_any (r a er most : Nat) (bs : List Nat) (w : World) (h : Rd w r bs a er) :
    Calls Try.prog 28 #[.pointer (some ⟨r, 0, none⟩), .int .u64 (most : Int)] w fun e w' =>
      e = .returned (.int .u64 (nV bs a er most : Int)) ∧ Rd w' r bs (nA bs a er most) (nE bs a er most) ∧ w.grownBy w' (some r) := by
  have h' := Lib.hid h
  obtain ⟨A, c, h1, hA, hc, ha, hl, hb⟩ := h
  obtain ⟨k, hk⟩ : ∃ k, bs.length = k := ⟨_, rfl⟩
  rw [hk] at h1 hl ha hc
  have HK := Lib.hid hk
  clear hk
  have h0 : w.cell? ⟨r, 0, none⟩ = some (.slice A k c) := cell_of_row w r 0 _ _ _ h1
  have h2 : w.cell? ⟨r, 1, none⟩ = some (.int .i64 (a : Int)) := cell_of_row w r 1 _ _ _ h1
  have h3 : w.cell? ⟨r, 2, none⟩ = some (.int .i64 (er : Int)) := cell_of_row w r 2 _ _ _ h1
  have z1 := frozen_of_row w r 1 _ _ h1
  have z2 := frozen_of_row w r 2 _ _ h1
  have H1 := Lib.hid h1
  have HB := Lib.hid hb
  clear h1 hb
  by_cases he : er = 0
  · subst he
    obtain ⟨f, hf⟩ : ∃ f, fin 0 (bs.drop a) = f := ⟨_, rfl⟩
    obtain ⟨v, hv⟩ : ∃ v, fV (bs.drop a) = v := ⟨_, rfl⟩
    have hfl : f ≤ k - a := by have := fin_le (bs.drop a) 0; rw [hf, List.length_drop, HK.out] at this; exact this
    have hfirst : ∀ W : World, Lies W r (if c = a then A else A.map (·.add a)) ((bs.drop a).map bv) → Calls Try.prog 29 #[.slice (if c = a then A else A.map (·.add a)) (k - a) (c - a)] W fun e w' => e = .returned (.tuple #[.int .u64 (v : Int), .int .i64 (f : Int)]) ∧ w' = W := by
      intro W hW
      rw [← hv, ← hf]
      exact quiet_eq (first_any _ (k - a) _ r (bs.drop a) W (by rw [List.length_drop, HK.out]) hW (fun x hx => HB.out x (List.mem_of_mem_drop hx)) (by omega))
    have HF := Lib.hid hfirst
    have Hf := Lib.hid hf
    have Hv := Lib.hid hv
    clear hfirst hf hv
    go_enter Try.func28, Try.ntmps28
    go_wp2
    go_quiet ((go_at_call 29; exact Calls.quiet_of_same (HF.out _ (sliced_lies hA HK.out hc))))
    by_cases f0 : f = 0
    · have E := Lib.hid (n_form (bs := bs) (a := a) (most := most) (by rw [Hf.out]; exact f0))
      subst f0
      go_wp2
      all_goals go_ret
      all_goals exact ⟨ret_zero E.out.1, rd_err H1.out hA HK.out hc ha hl HB.out E.out.2.1 E.out.2.2, grown_set _ _ _ _ _⟩
    · have ev : v = val ((bs.drop a).take (fin 0 (bs.drop a))) := by rw [← Hv.out]; unfold fV; rw [Hf.out, if_neg f0]
      by_cases hm : most < v
      · have E := Lib.hid (n_arg (bs := bs) (a := a) (most := most) (by rw [Hf.out]; exact f0) (by rw [← ev]; exact hm))
        clear ev
        go_wp2
        all_goals go_ret
        all_goals exact ⟨ret_zero E.out.1, rd_err H1.out hA HK.out hc ha hl HB.out E.out.2.1 E.out.2.2, grown_set _ _ _ _ _⟩
      · have E := Lib.hid (n_ok (bs := bs) (a := a) (most := most) (by rw [Hf.out]; exact f0) (by rw [← ev]; omega))
        have EV := Lib.hid ev
        clear ev
        go_wp2
        all_goals go_ret
        all_goals exact ⟨ret_u64 (by rw [E.out.1]; exact EV.out), rd_on H1.out hA HK.out hc (by omega) hl HB.out (by rw [E.out.2.1, Hf.out]) E.out.2.2, grown_set _ _ _ _ _⟩
  · have hd : ((er : Int) != 0) = true := by simp; omega
    obtain ⟨e1, e2, e3⟩ := n_err (bs := bs) (a := a) (most := most) he
    have E1 := Lib.hid e1
    have E2 := Lib.hid e2
    have E3 := Lib.hid e3
    clear e1 e2 e3
    go_enter Try.func28, Try.ntmps28
    go_wp2
    go_ret
    exact ⟨ret_zero E1.out, by rw [E2.out, E3.out]; exact h'.out, World.grownBy.refl _ _⟩
end Go.Proofs.Ytkfhgdnlieaedaa.W
