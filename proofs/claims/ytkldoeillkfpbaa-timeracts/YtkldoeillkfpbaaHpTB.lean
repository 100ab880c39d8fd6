/- A heap in memory: the contracts of its inner functions that ask its order. -/
import Derived.Test.YtkldoeillkfpbaaHpTA
namespace Go.Proofs.Ytkldoeillkfpbaa.W.HT
open Go.RowKit

/-- What the order in a heap's block answers: it may count (C), in blocks of S. -/
structure Less (r : Nat) (Fv : Value) (S : Nat → Prop) (C : Nat → World → Prop) : Prop where
  call : ∀ (w : World) (m : Nat) (x y : V), w.cell? ⟨r, 0, none⟩ = some Fv → C m w → m < 4611686018427387904 → ok x → ok y →
    Calls Try.prog 60 #[.pointer (some ⟨r, 0, none⟩), vv x, vv y] w fun e w' => e = .returned (.bool (lt x y)) ∧ C (m + 1) w' ∧ Only w w' S
  keep : ∀ (w w' : World) (m : Nat) (S' : Nat → Prop), C m w → Only w w' S' → (∀ j, S j → ¬ S' j) → C m w'

set_option maxRecDepth 100000 in
set_option maxHeartbeats 800000 in
theorem child_any {r : Nat} {Fv : Value} {S : Nat → Prop} {C : Nat → World → Prop} (L : Less r Fv S C) (g cap b n : Nat) (T : Nat → K × V) (M : K → Option Nat) (c : Nat) (i : Nat) (w : World) (h : St w r Fv g cap b n T M c) (ho : Hole lt ok n T i)
    (hi : 2 * i + 1 < n) (hn : n < 1073741824) (m : Nat) (hm : m < 4611686018427387904) (hC : C m w) :
    Calls Try.prog 61 #[.pointer (some ⟨r, 0, none⟩), .int .i64 (i : Int)] w fun e w' => ∃ ch a : Nat, e = .returned (.int .i64 (ch : Int)) ∧ 0 < ch ∧ ch < n ∧ par ch = i ∧
      (∀ j, 0 < j → j < n → par j = i → lt (T j).2 (T ch).2 = false) ∧ a ≤ 1 ∧ C (m + a) w' ∧ Only w w' S := by
  have c1 := h.c1
  have hcap := h.row.cap_
  obtain ⟨l, hl⟩ : ∃ l, l = 2 * i + 1 := ⟨_, rfl⟩
  obtain ⟨l2, hl2⟩ : ∃ l2, l2 = 2 * i + 2 := ⟨_, rfl⟩
  have okl := ho.okV l (by omega) (by omega)
  have w1 : IntKind.i64.wrap (2 * (i : Int)) = 2 * (i : Int) := wrap_small _ (by omega) (by omega)
  have w2 : IntKind.i64.wrap (2 * (i : Int) + 1) = (l : Int) := by rw [wrap_small _ (by omega) (by omega)]; omega
  have w3 : IntKind.i64.wrap (2 * (i : Int) + 2) = (l2 : Int) := by rw [wrap_small _ (by omega) (by omega)]; omega
  have HL := Lib.hid hl
  have HL2 := Lib.hid hl2
  clear hl hl2
  by_cases hr : l2 < n
  · have okr := ho.okV l2 hr (by have := HL2.out; omega)
    obtain ⟨⟨kl, vl⟩, hTl⟩ : ∃ x, T l = x := ⟨_, rfl⟩
    obtain ⟨⟨kr, vr⟩, hTr⟩ : ∃ x, T l2 = x := ⟨_, rfl⟩
    have hln : (l : Int) < (n : Int) := by have := HL.out; omega
    have hrn : (l2 : Int) < (n : Int) := by omega
    have hl0 : l < n := by have := HL.out; omega
    have x1 : w.cell? ⟨g, l * 5 + 2, none⟩ = some (.int .i64 vl.1) := h.row.cell (c := 2) hl0 (by rw [hTl]; rfl) rfl
    have x2 : w.cell? ⟨g, l * 5 + 3, none⟩ = some (.int .i64 vl.2.1) := h.row.cell (c := 3) hl0 (by rw [hTl]; rfl) rfl
    have x3 : w.cell? ⟨g, l * 5 + 4, none⟩ = some (.int .i64 vl.2.2) := h.row.cell (c := 4) hl0 (by rw [hTl]; rfl) rfl
    have y1 : w.cell? ⟨g, l2 * 5 + 2, none⟩ = some (.int .i64 vr.1) := h.row.cell (c := 2) hr (by rw [hTr]; rfl) rfl
    have y2 : w.cell? ⟨g, l2 * 5 + 3, none⟩ = some (.int .i64 vr.2.1) := h.row.cell (c := 3) hr (by rw [hTr]; rfl) rfl
    have y3 : w.cell? ⟨g, l2 * 5 + 4, none⟩ = some (.int .i64 vr.2.2) := h.row.cell (c := 4) hr (by rw [hTr]; rfl) rfl
    rw [hTl] at okl
    rw [hTr] at okr
    have HTL := Lib.hid hTl
    have HTR := Lib.hid hTr
    have hdr : decide ((l2 : Int) < (n : Int)) = true := by simp; omega
    have hcall := L.call w.drew m (vr) (vl) h.c0 (L.keep w w.drew m (fun _ => False) hC ((Only.refl w _).drewN 1) (fun _ _ q => q)) hm okr okl
    clear hTl hTr
    go_enter Try.func61, Try.ntmps61
    go_wp2
    go_still_tail 25, (by kernel_rfl)
    change wpList _ _ _ _ _ w.drew
    have hd : Only w w.drew S := (Only.refl w _).drewN 1
    clear x1 y1 c1
    clear x2 x3 y2 y3
    generalize w.drew = wd at hcall hd ⊢
    cases hlt : lt vr vl with
    | true =>
      rw [hlt] at hcall
      have HLT := Lib.hid hlt
      clear hlt
      go_wp2_with fail
      refine hcall.mono ?_
      rintro e w' ⟨rfl, hC', ho'⟩
      clear hcall
      go_wp2_with fail
      go_ret
      refine ⟨l2, 1, rfl, ?_, hr, ?_, ?_, Nat.le_refl _, hC', hd.tr ho'⟩
      · have := HL2.out; omega
      · rw [HL2.out]; exact par_right i
      · intro j h0 hj hpj
        rcases par_cases h0 hpj with q | q
        · rw [← HL.out] at q; subst q
          rw [HTL.out, HTR.out]; exact odr.asym _ _ okr okl HLT.out
        · rw [← HL2.out] at q; subst q
          rw [HTR.out]; exact odr.irr _ okr
    | false =>
      rw [hlt] at hcall
      have HLT := Lib.hid hlt
      clear hlt
      go_wp2_with fail
      refine hcall.mono ?_
      rintro e w' ⟨rfl, hC', ho'⟩
      clear hcall
      go_wp2_with fail
      go_ret
      refine ⟨l, 1, rfl, ?_, hl0, ?_, ?_, Nat.le_refl _, hC', hd.tr ho'⟩
      · have := HL.out; omega
      · rw [HL.out]; exact par_left i
      · intro j h0 hj hpj
        rcases par_cases h0 hpj with q | q
        · rw [← HL.out] at q; subst q
          rw [HTL.out]; exact odr.irr _ okl
        · rw [← HL2.out] at q; subst q
          rw [HTL.out, HTR.out]; exact HLT.out
  · have hdr : decide ((l2 : Int) < (n : Int)) = false := by simp; omega
    have hl0 : l < n := by have := HL.out; omega
    go_enter Try.func61, Try.ntmps61
    go_wp2
    go_quiet (fail)
    go_wp2
    go_ret
    refine ⟨l, 0, rfl, ?_, hl0, ?_, ?_, by omega, L.keep w (w.drewN _) m (fun _ => False) hC ((Only.refl w _).drewN _) (fun _ _ q => q), (Only.refl w _).drewN _⟩
    · have := HL.out; omega
    · rw [HL.out]; exact par_left i
    · intro j h0 hj hpj
      rcases par_cases h0 hpj with q | q
      · rw [← HL.out] at q; subst q
        exact odr.irr _ okl
      · rw [← HL2.out] at q; omega
end Go.Proofs.Ytkldoeillkfpbaa.W.HT
