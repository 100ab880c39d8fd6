/- Contracts of package host: leave, Add, Drain, Fail, Take, Give. -/
import Derived.Test.YthmmobhbakmbpaaHostA
namespace Go.Proofs.Ythmmobhbakmbpaa.W
open Go.RowKit

theorem updZ_id {α : Type} (H : Int → Option α) {x : Int} {v : Option α} (h : H x = v) : updZ H x v = H := by
  funext y
  by_cases e : y = x
  · subst e; rw [updZ_same, h]
  · rw [updZ_ne _ _ e]
theorem hts_gone : Hid ([Value.bool false, .bool false, .int .i64 0, .int .i64 0] = hts none) := Lib.hid rfl
theorem hts_new {n : Int} (h : 1 ≤ n) : Hid ([Value.bool true, .bool false, .int .i64 n, .int .i64 0] = hts (some (false, n.toNat, 0))) := by
  refine Lib.hid ?_
  show _ = [Value.bool true, .bool false, .int .i64 ((n.toNat : Nat) : Int), .int .i64 ((0 : Nat) : Int)]
  rw [Int.toNat_of_nonneg (by omega)]; rfl

set_option maxRecDepth 100000 in
set_option maxHeartbeats 1600000 in
theorem h_leave (l : Nat) (H : Int → Option Ht) (f : Nat) (d : Bool) (s u : Nat) (w : World) (h : Ho w l H) (hx : H (f : Int) = some (d, s, u)) :
    Calls Try.prog 32 #[.pointer (some ⟨l, 0, none⟩), .int .i64 (f : Int)] w fun e w' => e = .returned (.tuple #[]) ∧ Ho w' l (updZ H (f : Int) (lv d s u)) ∧ w.grownBy w' (some l) := by
  have hbd := h.hb _ d s u hx
  have hf : f < 32 := by omega
  have hfi : (f : Int) < 32 := by omega
  have c1 := h.c1 hf hx
  have c3 := h.c3 hf hx
  have HH := Lib.hid h
  cases d with
  | false =>
    rw [show lv false s u = some (false, s, u) from rfl, updZ_id H hx]
    clear hx h hbd
    go_enter Try.func32, Try.ntmps32
    go_wp2
    go_end0
    exact ⟨rfl, HH.out, World.grownBy.refl _ _⟩
  | true =>
    cases u with
    | zero =>
      rw [show lv true s 0 = none from rfl]
      have HG := Lib.hid (h.hb.gone (f : Int))
      clear hx h hbd
      go_enter Try.func32, Try.ntmps32
      go_wp2_with (with_reducible refine wpList_store_ht rfl (.tmp 26) (.tmp 23) rfl l f none _ hts_gone rfl rfl H HH.out hf HG.out ?_; intro w2 HG2 hg2)
      go_end0
      exact ⟨rfl, HG2.out, hg2⟩
    | succ n =>
      rw [show lv true s (n + 1) = some (true, s, n + 1) from rfl, updZ_id H hx]
      have hn0 : ((n : Int) + 1 == 0) = false := by simp; omega
      have c3' : w.cell? ⟨l, f * 4 + 3, none⟩ = some (.int .i64 ((n : Int) + 1)) := c3
      clear hx h hbd c3
      go_enter Try.func32, Try.ntmps32
      go_wp2
      go_end0
      exact ⟨rfl, HH.out, World.grownBy.refl _ _⟩

set_option maxRecDepth 100000 in
set_option maxHeartbeats 1600000 in
theorem h_add (l : Nat) (H : Int → Option Ht) (x n : Int) (w : World) (h : Ho w l H) :
    Calls Try.prog 21 #[.pointer (some ⟨l, 0, none⟩), .int .i64 x, .int .i64 n] w fun e w' => e = .returned (.int .i64 (addC H x n)) ∧ Ho w' l (addH H x n) ∧ w.grownBy w' (some l) := by
  have HH := Lib.hid h
  cases hx : isH x with
  | false =>
    have e1 : addC H x n = 1 := by unfold addC; rw [if_pos (Or.inl hx)]
    have e2 : addH H x n = H := by unfold addH; rw [e1]; rfl
    rw [e1, e2]
    clear e1 e2
    have HX := Lib.hid hx
    clear hx h
    go_enter Try.func21, Try.ntmps21
    go_wp2_with fail
    refine (isH_any _ _).mono ?_
    rintro e w' ⟨rfl, rfl⟩
    rw [HX.out]
    go_wp2
    go_ret
    exact ⟨rfl, HH.out, World.grownBy.refl _ _⟩
  | true =>
  have HX := Lib.hid hx
  by_cases h1 : n < 1
  · have e1 : addC H x n = 1 := by unfold addC; rw [if_pos (Or.inr (Or.inl h1))]
    have e2 : addH H x n = H := by unfold addH; rw [e1]; rfl
    rw [e1, e2]
    clear e1 e2
    have d1 : decide (n < 1) = true := decide_eq_true h1
    clear hx h h1
    go_enter Try.func21, Try.ntmps21
    go_wp2_with fail
    refine (isH_any _ _).mono ?_
    rintro e w' ⟨rfl, rfl⟩
    rw [HX.out]
    go_wp2
    go_ret
    exact ⟨rfl, HH.out, World.grownBy.refl _ _⟩
  have d1 : decide (n < 1) = false := dec_f h1
  by_cases h2 : 4096 < n
  · have e1 : addC H x n = 1 := by unfold addC; rw [if_pos (Or.inr (Or.inr h2))]
    have e2 : addH H x n = H := by unfold addH; rw [e1]; rfl
    rw [e1, e2]
    clear e1 e2
    have d2 : decide (4096 < n) = true := decide_eq_true h2
    clear hx h h1 h2
    go_enter Try.func21, Try.ntmps21
    go_wp2_with fail
    refine (isH_any _ _).mono ?_
    rintro e w' ⟨rfl, rfl⟩
    rw [HX.out]
    go_wp2
    go_ret
    exact ⟨rfl, HH.out, World.grownBy.refl _ _⟩
  have d2 : decide (4096 < n) = false := dec_f h2
  obtain ⟨f, rfl, hf⟩ := isH_nat hx
  have hfi : (f : Int) < 32 := by omega
  have hno : ¬ (isH (f : Int) = false ∨ n < 1 ∨ 4096 < n) := by rw [hx]; simp; omega
  cases hv : H (f : Int) with
  | some v =>
    have e1 : addC H (f : Int) n = 3 := by unfold addC; rw [if_neg hno, hv]; rfl
    have e2 : addH H (f : Int) n = H := by unfold addH; rw [e1]; rfl
    rw [e1, e2]
    have HV := Lib.hid hv
    clear e1 e2 hno hv h1 h2 hx h
    go_enter Try.func21, Try.ntmps21
    go_wp2_with fail
    refine (isH_any _ _).mono ?_
    rintro e w' ⟨rfl, rfl⟩
    rw [HX.out]
    go_wp2_with fail
    refine (h_there l H (f : Int) _ HH.out).mono ?_
    rintro e w' ⟨rfl, rfl⟩
    rw [HV.out]
    simp only [Option.isSome]
    go_wp2
    go_ret
    exact ⟨rfl, HH.out, World.grownBy.refl _ _⟩
  | none =>
    have e1 : addC H (f : Int) n = 0 := by unfold addC; rw [if_neg hno, hv]; rfl
    have e2 : addH H (f : Int) n = updZ H (f : Int) (some (false, n.toNat, 0)) := by unfold addH; rw [e1]; rfl
    rw [e1, e2]
    have HV := Lib.hid hv
    have HB := Lib.hid (h.hb.put (d := false) (u := 0) (s := n.toNat) hf (by omega) (by omega) (by omega))
    have HT := hts_new (n := n) (by omega)
    clear e1 e2 hno hv h1 h2 hx h
    go_enter Try.func21, Try.ntmps21
    go_wp2_with fail
    refine (isH_any _ _).mono ?_
    rintro e w' ⟨rfl, rfl⟩
    rw [HX.out]
    go_wp2_with fail
    refine (h_there l H (f : Int) _ HH.out).mono ?_
    rintro e w' ⟨rfl, rfl⟩
    rw [HV.out]
    simp only [Option.isSome]
    go_wp2_with (with_reducible refine wpList_store_ht rfl (.tmp 27) (.tmp 24) rfl l f (some (false, n.toNat, 0)) _ HT rfl rfl H HH.out hf HB.out ?_; intro w2 HG2 hg2)
    go_ret
    exact ⟨rfl, HG2.out, hg2⟩

set_option maxRecDepth 100000 in
set_option maxHeartbeats 1600000 in
theorem h_fail (l : Nat) (H : Int → Option Ht) (x : Int) (w : World) (h : Ho w l H) :
    Calls Try.prog 27 #[.pointer (some ⟨l, 0, none⟩), .int .i64 x] w fun e w' => e = .returned (.int .i64 (faC H x)) ∧ Ho w' l (updZ H x none) ∧ w.grownBy w' (some l) := by
  have HH := Lib.hid h
  cases hv : H x with
  | none =>
    rw [show faC H x = 2 by unfold faC; rw [hv], updZ_id H hv]
    have HV := Lib.hid hv
    clear hv h
    go_enter Try.func27, Try.ntmps27
    go_wp2_with fail
    refine (h_there l H x _ HH.out).mono ?_
    rintro e w' ⟨rfl, rfl⟩
    rw [HV.out]
    simp only [Option.isSome]
    go_wp2
    go_ret
    exact ⟨rfl, HH.out, World.grownBy.refl _ _⟩
  | some v =>
    obtain ⟨d, s, u⟩ := v
    rw [show faC H x = 0 by unfold faC; rw [hv]]
    obtain ⟨f, rfl, hf⟩ := h.hb.nat hv
    have hfi : (f : Int) < 32 := by omega
    have HV := Lib.hid hv
    have HB := Lib.hid (h.hb.gone (f : Int))
    clear hv h
    go_enter Try.func27, Try.ntmps27
    go_wp2_with fail
    refine (h_there l H (f : Int) _ HH.out).mono ?_
    rintro e w' ⟨rfl, rfl⟩
    rw [HV.out]
    simp only [Option.isSome]
    go_wp2_with (with_reducible refine wpList_store_ht rfl (.tmp 14) (.tmp 11) rfl l f none _ hts_gone rfl rfl H HH.out hf HB.out ?_; intro w2 HG2 hg2)
    go_ret
    exact ⟨rfl, HG2.out, hg2⟩

set_option maxRecDepth 100000 in
set_option maxHeartbeats 1600000 in
theorem h_drain (l : Nat) (H : Int → Option Ht) (x : Int) (w : World) (h : Ho w l H) :
    Calls Try.prog 29 #[.pointer (some ⟨l, 0, none⟩), .int .i64 x] w fun e w' => e = .returned (.int .i64 (drC H x)) ∧ Ho w' l (drH H x) ∧ w.grownBy w' (some l) := by
  have HH := Lib.hid h
  cases hv : H x with
  | none =>
    rw [show drC H x = 2 by unfold drC; rw [hv], show drH H x = H by unfold drH; rw [hv]]
    have HV := Lib.hid hv
    clear hv h
    go_enter Try.func29, Try.ntmps29
    go_wp2_with fail
    refine (h_there l H x _ HH.out).mono ?_
    rintro e w' ⟨rfl, rfl⟩
    rw [HV.out]
    simp only [Option.isSome]
    go_wp2
    go_ret
    exact ⟨rfl, HH.out, World.grownBy.refl _ _⟩
  | some v =>
    obtain ⟨d, s, u⟩ := v
    obtain ⟨f, rfl, hf⟩ := h.hb.nat hv
    have hfi : (f : Int) < 32 := by omega
    have c1 := h.c1 hf hv
    have HV := Lib.hid hv
    cases d with
    | true =>
      rw [show drC H (f : Int) = 3 by unfold drC; rw [hv], show drH H (f : Int) = H by unfold drH; rw [hv]]
      clear hv h
      go_enter Try.func29, Try.ntmps29
      go_wp2_with fail
      refine (h_there l H (f : Int) _ HH.out).mono ?_
      rintro e w' ⟨rfl, rfl⟩
      rw [HV.out]
      simp only [Option.isSome]
      go_wp2
      go_ret
      exact ⟨rfl, HH.out, World.grownBy.refl _ _⟩
    | false =>
      rw [show drC H (f : Int) = 0 by unfold drC; rw [hv], show drH H (f : Int) = updZ H (f : Int) (lv true s u) by unfold drH; rw [hv]]
      have hbd := h.hb _ _ _ _ hv
      have HB := Lib.hid (h.hb.put (d := true) (u := u) (s := s) hf (by omega) (by omega) (by omega))
      have hrow := Lib.hid h.row
      have HLEN := Lib.hid (show f * 4 + 1 < (hro H).length by rw [hro_len]; omega)
      clear hv h hbd
      go_enter Try.func29, Try.ntmps29
      go_wp2_with fail
      refine (h_there l H (f : Int) _ HH.out).mono ?_
      rintro e w' ⟨rfl, rfl⟩
      rw [HV.out]
      simp only [Option.isSome]
      go_wp2_with (with_reducible refine wpList_store_boolin rfl 4 (.tmp 21) (.const (.bool true)) rfl (by kernel_rfl) l (f * 4 + 1) rfl true rfl _ _ hrow.out HLEN.out ?_; intro w2 HG2 hg2)
      have h2 : Ho w2 l (updZ H (f : Int) (some (true, s, u))) := ⟨HB.out, by rw [HG2.out, hro_drain H true hf HV.out]⟩
      refine (h_leave l _ f true s u _ h2 (updZ_same _ _ _)).mono ?_
      rintro e w3 ⟨rfl, h3, hg3⟩
      rw [updZ_twice] at h3
      have H3 := Lib.hid h3
      clear h2 h3 c1
      go_wp2
      go_ret
      exact ⟨rfl, H3.out, grown_trans hg2 hg3⟩


end Go.Proofs.Ythmmobhbakmbpaa.W
