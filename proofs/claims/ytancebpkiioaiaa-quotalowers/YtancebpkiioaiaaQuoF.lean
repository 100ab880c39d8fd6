/- Contracts of package quota: Begin, SetFunc. -/
import Derived.Test.YtancebpkiioaiaaQuoE
namespace Go.Proofs.Ytancebpkiioaiaa.W
open Go.RowKit

theorem ask_free {A : Int → Option Nat} {F : Int → Option Fn} (h : Ab A F) {x : Int} (hm : mayB A F x = true) : ∃ (f o r b : Nat), x = (f : Int) ∧ f < 64 ∧ F x = some (o, r, b) ∧ b < 1000 ∧ ¬ (0 < r ∧ r ≤ b) ∧ ¬ (((A (o : Int)).getD 0 : Nat) ≤ sB F (o : Int) ∨ (r = 0 ∧ ((A (o : Int)).getD 0 : Nat) ≤ sO F (o : Int) + sR F (o : Int))) := by
  unfold mayB at hm
  cases hF : F x with
  | none => rw [ask_none hF] at hm; simp at hm
  | some v =>
    obtain ⟨o, r, b⟩ := v
    rw [ask_some hF] at hm
    by_cases h1 : 0 < r ∧ r ≤ b
    · rw [if_pos h1] at hm; simp at hm
    · rw [if_neg h1] at hm
      by_cases h2 : ((A (o : Int)).getD 0 : Nat) ≤ sB F (o : Int) ∨ (r = 0 ∧ ((A (o : Int)).getD 0 : Nat) ≤ sO F (o : Int) + sR F (o : Int))
      · rw [if_pos h2] at hm; simp at hm
      · have hb := h.f0 _ _ _ _ hF
        have hfx : F ((x.toNat : Nat) : Int) = some (o, r, b) := by rw [show ((x.toNat : Nat) : Int) = x by omega]; exact hF
        have hle := gB_le_sB (f := x.toNat) (by omega) hfx
        have hlim : (A (o : Int)).getD 0 ≤ 1000 := by
          cases q : A (o : Int) with
          | none => simp
          | some n => exact (h.a0 _ _ q).2.2
        exact ⟨x.toNat, o, r, b, by omega, by omega, rfl, by omega, h1, h2⟩

set_option maxRecDepth 100000 in
set_option maxHeartbeats 1600000 in
theorem l_begin (l : Nat) (A : Int → Option Nat) (F : Int → Option Fn) (x : Int) (w : World) (h : Lg w l A F) :
    Calls Try.prog 30 #[.pointer (some ⟨l, 0, none⟩), .int .i64 x] w fun e w' => e = .returned (.bool (mayB A F x)) ∧ Lg w' l A (begF A F x) ∧ w.grownBy w' (some l) := by
  have H := Lib.hid h
  have hl := h.lt
  cases hm : mayB A F x with
  | false =>
    have e1 : begF A F x = F := by unfold begF; rw [hm]; rfl
    rw [e1]
    obtain ⟨c, hc⟩ : ∃ c, (askC A F x).1 = c := ⟨_, rfl⟩
    obtain ⟨d, hd⟩ : ∃ d, (askC A F x).2 = d := ⟨_, rfl⟩
    unfold mayB at hm
    rw [hc, hd] at hm
    have HC := Lib.hid hc
    have HD := Lib.hid hd
    clear h e1 hc hd
    cases d with
    | false =>
      clear hm
      go_enter Try.func30, Try.ntmps30
      go_wp2_with fail
      refine (l_ask l A F x _ H.out).mono ?_
      rintro e w' ⟨rfl, b1⟩
      rw [HC.out, HD.out]
      go_wp2
      go_ret
      exact ⟨rfl, H.out.keep b1 hl, below_grown b1 _⟩
    | true =>
      have hc0 : ((c : Int) == 0) = false := by simp at hm ⊢; omega
      clear hm
      go_enter Try.func30, Try.ntmps30
      go_wp2_with fail
      refine (l_ask l A F x _ H.out).mono ?_
      rintro e w' ⟨rfl, b1⟩
      rw [HC.out, HD.out]
      go_wp2
      go_ret
      exact ⟨rfl, H.out.keep b1 hl, below_grown b1 _⟩
  | true =>
    obtain ⟨f, o, r, b, rfl, hf, hF, hb, _, _⟩ := ask_free h.ab hm
    have e1 : begF A F (f : Int) = updZ F (f : Int) (some (o, r, b + 1)) := by unfold begF; rw [hm, hF]; rfl
    rw [e1]
    have HC : Hid ((askC A F (f : Int)).1 = 0) := Lib.hid (by unfold mayB at hm; simp at hm; exact hm.2)
    have HD : Hid ((askC A F (f : Int)).2 = true) := Lib.hid (by unfold mayB at hm; simp at hm; exact hm.1)
    have hfi : (f : Int) < 64 := by omega
    have hbI : (b : Int) < 1000 := by omega
    have hbw : IntKind.i64.wrap ((b : Int) + 1) = (b : Int) + 1 := by rw [IntKind.wrap_i64]; omega
    have hb1 : ((b + 1 : Nat) : Int) = (b : Int) + 1 := by omega
    have HB1 := Lib.hid hb1
    have HF := Lib.hid hF
    have hlen : 32 + f * 4 + 3 < (lrow A F).length := by rw [lrow_len]; omega
    have HLEN := Lib.hid hlen
    have hb2 := Lib.hid (show b + 1 ≤ 1000 by omega)
    clear h e1 hm hF hlen hb1
    go_enter Try.func30, Try.ntmps30
    go_wp2_with fail
    refine (l_ask l A F (f : Int) _ H.out).mono ?_
    rintro e w1 ⟨rfl, b1⟩
    rw [HC.out, HD.out]
    have H1 := Lib.hid (H.out.keep b1 hl)
    have c := H1.out.f3 (f := f) hf
    rw [HF.out] at c
    have c' : w1.cell? ⟨l, 32 + f * 4 + 3, none⟩ = some (.int .i64 (b : Int)) := c
    have hrow := Lib.hid H1.out.row
    clear c
    go_wp2_with fail
    go_still_tail 12, (by kernel_rfl)
    change wpList _ _ _ _ _ w1.drew
    have hd := grown_drew (World.grownBy.refl w1 (some l))
    have hg1 : Hid (w1.drew.heap[l]? = _) := hrow
    generalize w1.drew = w2 at hd hg1 ⊢
    refine wpList_store_in rfl 3 (.tmp 30) (.tmp 26) rfl (by kernel_rfl) l (32 + f * 4 + 3) rfl .i64 ((b : Int) + 1) rfl _ _ hg1.out HLEN.out ?_
    intro w3 HG3 hg3
    rw [← HB1.out] at HG3
    clear c'
    go_wp2
    go_ret
    exact ⟨rfl, Lg.run H.out.ab HF.out hb2.out HG3.out, grown_trans (grown_trans (below_grown b1 _) hd) hg3⟩

end Go.Proofs.Ytancebpkiioaiaa.W
