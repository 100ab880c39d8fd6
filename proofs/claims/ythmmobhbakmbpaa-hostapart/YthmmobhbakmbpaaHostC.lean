/- Contracts of package host: Take, Give. -/
import Derived.Test.YthmmobhbakmbpaaHostB
namespace Go.Proofs.Ythmmobhbakmbpaa.W
open Go.RowKit

theorem up_cases {H : Int → Option Ht} {x : Int} (h : upB H x = false) (m : Int) : tkB H x m = false ∧ tkH H x m = H := by
  unfold upB at h
  unfold tkB tkH
  cases q : H x with
  | none => exact ⟨rfl, rfl⟩
  | some v =>
    obtain ⟨d, s, u⟩ := v
    rw [q] at h
    cases d with
    | true => exact ⟨rfl, rfl⟩
    | false => cases h
theorem up_some {H : Int → Option Ht} {x : Int} (h : upB H x = true) : ∃ s u, H x = some (false, s, u) := by
  unfold upB at h
  cases q : H x with
  | none => rw [q] at h; cases h
  | some v =>
    obtain ⟨d, s, u⟩ := v
    rw [q] at h
    cases d with
    | false => exact ⟨s, u, rfl⟩
    | true => cases h
theorem cast_add {u : Nat} {m : Int} (h : 0 ≤ m) : ((u + m.toNat : Nat) : Int) = (u : Int) + m := by omega
theorem cast_sub {u : Nat} {m : Int} (h : 0 ≤ m) (k : m ≤ (u : Int)) : ((u - m.toNat : Nat) : Int) = (u : Int) - m := by omega

set_option maxRecDepth 100000 in
set_option maxHeartbeats 1600000 in
theorem h_take (l : Nat) (H : Int → Option Ht) (x m : Int) (w : World) (h : Ho w l H) :
    Calls Try.prog 22 #[.pointer (some ⟨l, 0, none⟩), .int .i64 x, .int .i64 m] w fun e w' => e = .returned (.bool (tkB H x m)) ∧ Ho w' l (tkH H x m) ∧ w.grownBy w' (some l) := by
  have HH := Lib.hid h
  cases hu : upB H x with
  | false =>
    obtain ⟨e1, e2⟩ := up_cases hu m
    rw [e1, e2]
    have HU := Lib.hid hu
    clear hu h e1 e2
    go_enter Try.func22, Try.ntmps22
    go_wp2_with fail
    refine (h_up l H x _ HH.out).mono ?_
    rintro e w' ⟨rfl, rfl⟩
    rw [HU.out]
    go_wp2
    go_ret
    exact ⟨rfl, HH.out, World.grownBy.refl _ _⟩
  | true =>
  obtain ⟨s, u, hv⟩ := up_some hu
  have HU := Lib.hid hu
  have hbd := h.hb _ _ _ _ hv
  obtain ⟨r, hr⟩ : ∃ r : Int, fr H x = r := ⟨_, rfl⟩
  have HR := Lib.hid hr
  have hrs : r = (s : Int) - (u : Int) := by rw [← hr]; unfold fr; rw [hv]
  by_cases h0 : m < 0
  · have e1 : tkB H x m = false := by unfold tkB; rw [hv]; simp; omega
    have e2 : tkH H x m = H := by unfold tkH; rw [hv]; simp; omega
    rw [e1, e2]
    have d0 : decide (m < 0) = true := decide_eq_true h0
    clear hu h e1 e2 hv hbd hr hrs h0
    go_enter Try.func22, Try.ntmps22
    go_wp2_with fail
    refine (h_up l H x _ HH.out).mono ?_
    rintro e w' ⟨rfl, rfl⟩
    rw [HU.out]
    go_wp2
    go_ret
    exact ⟨rfl, HH.out, World.grownBy.refl _ _⟩
  have d0 : decide (m < 0) = false := dec_f h0
  by_cases h1 : r < m
  · have e1 : tkB H x m = false := by unfold tkB; rw [hv]; simp; omega
    have e2 : tkH H x m = H := by unfold tkH; rw [hv]; simp; omega
    rw [e1, e2]
    have d1 : decide (r < m) = true := decide_eq_true h1
    clear hu h e1 e2 hv hbd hr hrs h0 h1
    go_enter Try.func22, Try.ntmps22
    go_wp2_with fail
    refine (h_up l H x _ HH.out).mono ?_
    rintro e w' ⟨rfl, rfl⟩
    rw [HU.out]
    go_wp2_with fail
    refine (h_free l H x _ HH.out).mono ?_
    rintro e w1 ⟨rfl, n0, hw1⟩
    have hg1 : w.grownBy w1 (some l) := by rw [hw1]; exact grown_drewN _ _ _
    have hh1 : Ho w1 l H := by rw [hw1]; exact HH.out.drewN n0
    have HW1 := Lib.hid hw1
    clear hw1
    rw [HR.out]
    go_wp2
    go_ret
    exact ⟨rfl, hh1, hg1⟩
  · have e1 : tkB H x m = true := by unfold tkB; rw [hv]; simp; omega
    have e2 : tkH H x m = updZ H x (some (false, s, u + m.toNat)) := by unfold tkH; rw [hv]; exact if_pos (by omega)
    rw [e1, e2]
    have d1 : decide (r < m) = false := dec_f h1
    obtain ⟨f, hf0, hf⟩ := h.hb.nat hv
    have HB := Lib.hid (h.hb.put (d := false) (u := u + m.toNat) (s := s) hf (by omega) (by omega) (by omega))
    have HLEN := Lib.hid (show f * 4 + 3 < (hro H).length by rw [hro_len]; omega)
    have HC := Lib.hid (cast_add (u := u) (m := m) (by omega))
    have hw : IntKind.i64.wrap ((u : Int) + m) = (u : Int) + m := by rw [IntKind.wrap_i64]; omega
    have hfi : (f : Int) < 32 := by omega
    have HV := Lib.hid hv
    subst hf0
    clear hu h e1 e2 hv hbd hr hrs h0 h1
    go_enter Try.func22, Try.ntmps22
    go_wp2_with fail
    refine (h_up l H (f : Int) _ HH.out).mono ?_
    rintro e w' ⟨rfl, rfl⟩
    rw [HU.out]
    go_wp2_with fail
    refine (h_free l H (f : Int) _ HH.out).mono ?_
    rintro e w1 ⟨rfl, n0, hw1⟩
    have hg1 : w.grownBy w1 (some l) := by rw [hw1]; exact grown_drewN _ _ _
    have hh1 : Ho w1 l H := by rw [hw1]; exact HH.out.drewN n0
    have HW1 := Lib.hid hw1
    clear hw1
    rw [HR.out]
    have c3 := hh1.c3 hf HV.out
    have hrow := Lib.hid hh1.row
    go_wp2_with fail
    go_still_tail 13, (by kernel_rfl)
    change wpList _ _ _ _ _ w1.drew
    have hd := grown_drew hg1
    have hg2 : Hid (w1.drew.heap[l]? = _) := hrow
    generalize w1.drew = w2 at hd hg2 ⊢
    refine wpList_store_in rfl 3 (.tmp 34) (.tmp 30) rfl (by kernel_rfl) l (f * 4 + 3) rfl .i64 ((u : Int) + m) rfl _ _ hg2.out HLEN.out ?_
    intro w3 HG3 hg3
    clear c3 hw
    go_wp2
    go_ret
    refine ⟨rfl, ⟨HB.out, ?_⟩, grown_trans hd hg3⟩
    rw [HG3.out, ← HC.out, hro_used H _ hf HV.out]

set_option maxRecDepth 100000 in
set_option maxHeartbeats 1600000 in
theorem h_give (l : Nat) (H : Int → Option Ht) (x m : Int) (w : World) (h : Ho w l H) :
    Calls Try.prog 24 #[.pointer (some ⟨l, 0, none⟩), .int .i64 x, .int .i64 m] w fun e w' => e = .returned (.bool (gvB H x m)) ∧ Ho w' l (gvH H x m) ∧ w.grownBy w' (some l) := by
  have HH := Lib.hid h
  cases hv : H x with
  | none =>
    have e1 : gvB H x m = false := by unfold gvB; rw [hv]
    have e2 : gvH H x m = H := by unfold gvH; rw [hv]
    rw [e1, e2]
    have HV := Lib.hid hv
    clear hv h e1 e2
    go_enter Try.func24, Try.ntmps24
    go_wp2_with fail
    refine (h_there l H x _ HH.out).mono ?_
    rintro e w' ⟨rfl, rfl⟩
    rw [HV.out]
    simp only [Option.isSome]
    go_wp2
    go_ret
    exact ⟨rfl, HH.out, World.grownBy.refl _ _⟩
  | some v =>
  obtain ⟨d, s, u⟩ := v
  have HV := Lib.hid hv
  have hbd := h.hb _ _ _ _ hv
  by_cases h0 : m < 0
  · have e1 : gvB H x m = false := by unfold gvB; rw [hv]; simp; omega
    have e2 : gvH H x m = H := by unfold gvH; rw [hv]; simp; omega
    rw [e1, e2]
    have d0 : decide (m < 0) = true := decide_eq_true h0
    clear h e1 e2 hv hbd h0
    go_enter Try.func24, Try.ntmps24
    go_wp2_with fail
    refine (h_there l H x _ HH.out).mono ?_
    rintro e w' ⟨rfl, rfl⟩
    rw [HV.out]
    simp only [Option.isSome]
    go_wp2
    go_ret
    exact ⟨rfl, HH.out, World.grownBy.refl _ _⟩
  have d0 : decide (m < 0) = false := dec_f h0
  obtain ⟨f, hf0, hf⟩ := h.hb.nat hv
  subst hf0
  have hfi : (f : Int) < 32 := by omega
  have c3 := h.c3 hf hv
  by_cases h1 : (u : Int) < m
  · have e1 : gvB H (f : Int) m = false := by unfold gvB; rw [hv]; simp; omega
    have e2 : gvH H (f : Int) m = H := by unfold gvH; rw [hv]; simp; omega
    rw [e1, e2]
    have d1 : decide ((u : Int) < m) = true := decide_eq_true h1
    clear h e1 e2 hv hbd h0 h1
    go_enter Try.func24, Try.ntmps24
    go_wp2_with fail
    refine (h_there l H (f : Int) _ HH.out).mono ?_
    rintro e w' ⟨rfl, rfl⟩
    rw [HV.out]
    simp only [Option.isSome]
    go_wp2
    go_ret
    exact ⟨rfl, HH.out, World.grownBy.refl _ _⟩
  · have e1 : gvB H (f : Int) m = true := by unfold gvB; rw [hv]; simp; omega
    have e2 : gvH H (f : Int) m = updZ H (f : Int) (lv d s (u - m.toNat)) := by unfold gvH; rw [hv]; exact if_pos (by omega)
    rw [e1, e2]
    have d1 : decide ((u : Int) < m) = false := dec_f h1
    have HB := Lib.hid (h.hb.put (d := d) (u := u - m.toNat) (s := s) hf (by omega) (by omega) (by omega))
    have HLEN := Lib.hid (show f * 4 + 3 < (hro H).length by rw [hro_len]; omega)
    have HC := Lib.hid (cast_sub (u := u) (m := m) (by omega) (by omega))
    have hw : IntKind.i64.wrap ((u : Int) - m) = (u : Int) - m := by rw [IntKind.wrap_i64]; omega
    have hrow := Lib.hid h.row
    clear h e1 e2 hv hbd h0 h1
    go_enter Try.func24, Try.ntmps24
    go_wp2_with fail
    refine (h_there l H (f : Int) _ HH.out).mono ?_
    rintro e w' ⟨rfl, rfl⟩
    rw [HV.out]
    simp only [Option.isSome]
    go_wp2_with fail
    go_still_tail 13, (by kernel_rfl)
    change wpList _ _ _ _ _ w.drew
    have hd := grown_drew (World.grownBy.refl w (some l))
    have hg2 : Hid (w.drew.heap[l]? = _) := hrow
    generalize w.drew = w2 at hd hg2 ⊢
    refine wpList_store_in rfl 3 (.tmp 38) (.tmp 34) rfl (by kernel_rfl) l (f * 4 + 3) rfl .i64 ((u : Int) - m) rfl _ _ hg2.out HLEN.out ?_
    intro w3 HG3 hg3
    have h3 : Ho w3 l (updZ H (f : Int) (some (d, s, u - m.toNat))) := ⟨HB.out, by rw [HG3.out, ← HC.out, hro_used H _ hf HV.out]⟩
    clear c3 hw
    go_wp2_with fail
    refine (h_leave l _ f d s (u - m.toNat) _ h3 (updZ_same _ _ _)).mono ?_
    rintro e w4 ⟨rfl, h4, hg4⟩
    rw [updZ_twice] at h4
    have H4 := Lib.hid h4
    clear h3 h4
    go_wp2
    go_ret
    exact ⟨rfl, H4.out, grown_trans (grown_trans hd hg3) hg4⟩


end Go.Proofs.Ythmmobhbakmbpaa.W
