/- Contracts of package quota: SetFunc. -/
import Derived.Test.YtancebpkiioaiaaQuoF
namespace Go.Proofs.Ytancebpkiioaiaa.W
open Go.RowKit

theorem funC_bad {A : Int → Option Nat} {F : Int → Option Fn} {f x n : Int} (h : (isF f && isA x && isC n) = false) : funC A F f x n = 1 := by unfold funC; rw [h]; rfl
theorem funF_no {A : Int → Option Nat} {F : Int → Option Fn} {f x n : Int} {c : Nat} (h : funC A F f x n = c + 1) : funF A F f x n = F := by unfold funF; rw [h]; rfl
theorem funC_none {A : Int → Option Nat} {F : Int → Option Fn} {f x n : Int} (h : (isF f && isA x && isC n) = true) (hA : A x = none) : funC A F f x n = 2 := by unfold funC; rw [h, hA]; rfl
theorem funC_other {A : Int → Option Nat} {F : Int → Option Fn} {f x n : Int} {lim o r b : Nat} (h : (isF f && isA x && isC n) = true) (hA : A x = some lim) (hF : F f = some (o, r, b)) (ho : (o : Int) ≠ x) : funC A F f x n = 3 := by
  unfold funC; rw [h, hA, hF]; simp [ho]
theorem funC_go {A : Int → Option Nat} {F : Int → Option Fn} {f x n : Int} {lim : Nat} (h : (isF f && isA x && isC n) = true) (hA : A x = some lim) (hF : F f = none ∨ ∃ r b o : Nat, F f = some (o, r, b) ∧ (o : Int) = x) :
    funC A F f x n = if (lim : Int) < (sR F x : Int) - ((((F f).getD (0, 0, 0)).2.1 : Nat) : Int) + n then 4 else 0 := by
  unfold funC
  rcases hF with hF | ⟨r, b, o, hF, ho⟩
  · rw [h, hA, hF]; simp
  · rw [h, hA, hF]; simp [ho]
abbrev SFun (w3 : World) (g l k r m : Nat) (w' : World) : Prop := w'.cell? ⟨g, 2, none⟩ = some (.int .i64 (r : Int)) ∧ w'.cell? ⟨l, k, none⟩ = some (.int .i64 (m : Int)) ∧ Below w3.heap.size w3 w'
theorem SFun.below {w3 w' w'' : World} {g l k o m : Nat} (hS : SFun w3 g l k o m w') (hb : Below w'.heap.size w' w'') : SFun w3 g l k o m w'' :=
  ⟨(Only.of_below (S := fun _ => False) hb).cell (fun q => q) hS.1, (Only.of_below (S := fun _ => False) hb).cell (fun q => q) hS.2.1, hS.2.2.trans (hb.mono hS.2.2.size)⟩

set_option maxRecDepth 100000 in
set_option maxHeartbeats 3200000 in
theorem l_setF0 (l : Nat) (A : Int → Option Nat) (F : Int → Option Fn) (f x n : Int) (w : World) (h : Lg w l A F) (hbad : (isF f && isA x && isC n) = false) :
    Calls Try.prog 25 #[.pointer (some ⟨l, 0, none⟩), .int .i64 f, .int .i64 x, .int .i64 n] w fun e w' => e = .returned (.int .i64 (funC A F f x n : Int)) ∧ Lg w' l A (funF A F f x n) ∧ w.grownBy w' (some l) := by
  have H := Lib.hid h
  clear h
  cases h1 : isF f with
  | false =>
    have HF1 := Lib.hid h1
    have e1 : funC A F f x n = 1 := funC_bad (by rw [h1]; rfl)
    rw [funF_no e1, e1]
    clear e1
    go_enter Try.func25, Try.ntmps25
    go_wp2_with fail
    refine (isF_any _ _).mono ?_
    rintro e w' ⟨rfl, rfl⟩
    rw [HF1.out]
    go_wp2
    go_ret
    exact ⟨rfl, H.out, World.grownBy.refl _ _⟩
  | true =>
    have HF1 := Lib.hid h1
    cases h2 : isA x with
    | false =>
      have HX := Lib.hid h2
      have e1 : funC A F f x n = 1 := funC_bad (by rw [h1, h2]; rfl)
      rw [funF_no e1, e1]
      clear e1
      go_enter Try.func25, Try.ntmps25
      go_wp2_with fail
      refine (isF_any _ _).mono ?_
      rintro e w' ⟨rfl, rfl⟩
      rw [HF1.out]
      go_wp2_with fail
      refine (isA_any _ _).mono ?_
      rintro e w' ⟨rfl, rfl⟩
      rw [HX.out]
      go_wp2
      go_ret
      exact ⟨rfl, H.out, World.grownBy.refl _ _⟩
    | true =>
      have HX := Lib.hid h2
      have h3 : isC n = false := by rw [h1, h2] at hbad; exact hbad
      have HN := Lib.hid h3
      have e1 : funC A F f x n = 1 := funC_bad (by rw [h1, h2, h3]; rfl)
      rw [funF_no e1, e1]
      clear e1
      go_enter Try.func25, Try.ntmps25
      go_wp2_with fail
      refine (isF_any _ _).mono ?_
      rintro e w' ⟨rfl, rfl⟩
      rw [HF1.out]
      go_wp2_with fail
      refine (isA_any _ _).mono ?_
      rintro e w' ⟨rfl, rfl⟩
      rw [HX.out]
      go_wp2_with fail
      refine (isC_any _ _).mono ?_
      rintro e w' ⟨rfl, rfl⟩
      rw [HN.out]
      go_wp2
      go_ret
      exact ⟨rfl, H.out, World.grownBy.refl _ _⟩

set_option maxRecDepth 100000 in
set_option maxHeartbeats 3200000 in
theorem l_setF2 (l : Nat) (A : Int → Option Nat) (F : Int → Option Fn) (f x n : Int) (w : World) (h : Lg w l A F) (hgood : (isF f && isA x && isC n) = true) (hA : A x = none) :
    Calls Try.prog 25 #[.pointer (some ⟨l, 0, none⟩), .int .i64 f, .int .i64 x, .int .i64 n] w fun e w' => e = .returned (.int .i64 (funC A F f x n : Int)) ∧ Lg w' l A (funF A F f x n) ∧ w.grownBy w' (some l) := by
  have H := Lib.hid h
  have hgo := hgood
  simp only [Bool.and_eq_true] at hgo
  obtain ⟨⟨h1, h2⟩, h3⟩ := hgo
  have HF1 := Lib.hid h1
  have HX := Lib.hid h2
  have HN := Lib.hid h3
  have e1 := funC_none (F := F) hgood hA
  rw [funF_no e1, e1]
  obtain ⟨a, rfl, ha⟩ := isA_nat h2
  obtain ⟨fn, rfl, hfn⟩ := isF_nat h1
  obtain ⟨m, rfl, hm⟩ := isC_nat h3
  have haI : (a : Int) < 16 := by omega
  have hfI : (fn : Int) < 64 := by omega
  have hmI : (m : Int) ≤ 1000 := by omega
  have ca := h.a0 ha
  rw [hA] at ca
  have ca' : w.cell? ⟨l, a * 2, none⟩ = some (.bool false) := ca
  clear e1 hgood h1 h2 h3 ca hA h
  go_enter Try.func25, Try.ntmps25
  go_wp2_with fail
  refine (isF_any _ _).mono ?_
  rintro e w' ⟨rfl, rfl⟩
  rw [HF1.out]
  go_wp2_with fail
  refine (isA_any _ _).mono ?_
  rintro e w' ⟨rfl, rfl⟩
  rw [HX.out]
  go_wp2_with fail
  refine (isC_any _ _).mono ?_
  rintro e w' ⟨rfl, rfl⟩
  rw [HN.out]
  go_wp2
  go_ret
  exact ⟨rfl, H.out, World.grownBy.refl _ _⟩

set_option maxRecDepth 100000 in
set_option maxHeartbeats 3200000 in
theorem l_setF3 (l : Nat) (A : Int → Option Nat) (F : Int → Option Fn) (f x n : Int) (w : World) (h : Lg w l A F) (hgood : (isF f && isA x && isC n) = true) (lim o r b : Nat) (hA : A x = some lim) (hF : F f = some (o, r, b)) (ho : (o : Int) ≠ x) :
    Calls Try.prog 25 #[.pointer (some ⟨l, 0, none⟩), .int .i64 f, .int .i64 x, .int .i64 n] w fun e w' => e = .returned (.int .i64 (funC A F f x n : Int)) ∧ Lg w' l A (funF A F f x n) ∧ w.grownBy w' (some l) := by
  have H := Lib.hid h
  have hgo := hgood
  simp only [Bool.and_eq_true] at hgo
  obtain ⟨⟨h1, h2⟩, h3⟩ := hgo
  have HF1 := Lib.hid h1
  have HX := Lib.hid h2
  have HN := Lib.hid h3
  have e1 := funC_other hgood hA hF ho
  rw [funF_no e1, e1]
  obtain ⟨a, rfl, ha⟩ := isA_nat h2
  obtain ⟨fn, rfl, hfn⟩ := isF_nat h1
  obtain ⟨m, rfl, hm⟩ := isC_nat h3
  have haI : (a : Int) < 16 := by omega
  have hfI : (fn : Int) < 64 := by omega
  have hmI : (m : Int) ≤ 1000 := by omega
  have ca := h.a0 ha
  rw [hA] at ca
  have ca' : w.cell? ⟨l, a * 2, none⟩ = some (.bool true) := ca
  have f0 := h.f0 hfn
  have f1 := h.f1 hfn
  have f2 := h.f2 hfn
  have f3 := h.f3 hfn
  rw [hF] at f0 f1 f2 f3
  have f0' : w.cell? ⟨l, 32 + fn * 4, none⟩ = some (.bool true) := f0
  have f1' : w.cell? ⟨l, 32 + fn * 4 + 1, none⟩ = some (.int .i64 (o : Int)) := f1
  have f2' : w.cell? ⟨l, 32 + fn * 4 + 2, none⟩ = some (.int .i64 (r : Int)) := f2
  have f3' : w.cell? ⟨l, 32 + fn * 4 + 3, none⟩ = some (.int .i64 (b : Int)) := f3
  have ho' : ((o : Int) == (a : Int)) = false := by simpa using ho
  have hbx : Below w.heap.size w (w.alloc (.cells #[.bool true, .int .i64 (o : Int), .int .i64 (r : Int), .int .i64 (b : Int)] 73)) := (Below.refl _ _).alloc (Nat.le_refl _) _
  have hlt := h.lt
  have hoN : o ≠ a := by omega
  clear e1 hgood h1 h2 h3 ca hA h hF f0 f1 f2 f3 ho
  go_enter Try.func25, Try.ntmps25
  go_wp2_with fail
  refine (isF_any _ _).mono ?_
  rintro e w' ⟨rfl, rfl⟩
  rw [HF1.out]
  go_wp2_with fail
  refine (isA_any _ _).mono ?_
  rintro e w' ⟨rfl, rfl⟩
  rw [HX.out]
  go_wp2_with fail
  refine (isC_any _ _).mono ?_
  rintro e w' ⟨rfl, rfl⟩
  rw [HN.out]
  go_wp2
  go_ret
  exact ⟨rfl, H.out.keep hbx hlt, below_grown hbx _⟩

set_option maxRecDepth 100000 in
set_option maxHeartbeats 3200000 in
theorem l_setF4 (l : Nat) (A : Int → Option Nat) (F : Int → Option Fn) (f x n : Int) (w : World) (h : Lg w l A F) (hgood : (isF f && isA x && isC n) = true) (lim : Nat) (hA : A x = some lim) (hF : F f = none ∨ ∃ r b o : Nat, F f = some (o, r, b) ∧ (o : Int) = x) :
    Calls Try.prog 25 #[.pointer (some ⟨l, 0, none⟩), .int .i64 f, .int .i64 x, .int .i64 n] w fun e w' => e = .returned (.int .i64 (funC A F f x n : Int)) ∧ Lg w' l A (funF A F f x n) ∧ w.grownBy w' (some l) := by
  have H := Lib.hid h
  have hgo := hgood
  simp only [Bool.and_eq_true] at hgo
  obtain ⟨⟨h1, h2⟩, h3⟩ := hgo
  have HF1 := Lib.hid h1
  have HX := Lib.hid h2
  have HN := Lib.hid h3
  have e1 := funC_go hgood hA hF
  obtain ⟨a, rfl, ha⟩ := isA_nat h2
  obtain ⟨fn, rfl, hfn⟩ := isF_nat h1
  obtain ⟨m, rfl, hm⟩ := isC_nat h3
  have haI : (a : Int) < 16 := by omega
  have hfI : (fn : Int) < 64 := by omega
  have hmI : (m : Int) ≤ 1000 := by omega
  have ca := h.a0 ha
  rw [hA] at ca
  have ca' : w.cell? ⟨l, a * 2, none⟩ = some (.bool true) := ca
  have f0 := h.f0 hfn
  have f1 := h.f1 hfn
  have f2 := h.f2 hfn
  have f3 := h.f3 hfn
  have cl := h.a1 ha
  rw [hA] at cl
  have HCL : Hid (w.cell? ⟨l, a * 2 + 1, none⟩ = some (.int .i64 (lim : Int))) := Lib.hid cl
  have hl := h.lt
  have hbd : ((F (fn : Int)).getD (0, 0, 0)).1 < 16 ∧ ((F (fn : Int)).getD (0, 0, 0)).2.1 ≤ 1000 ∧ ((F (fn : Int)).getD (0, 0, 0)).2.2 ≤ 1000 := by
    cases q : F (fn : Int) with
    | none => simp
    | some v => obtain ⟨o, r, b⟩ := v; have := h.ab.f0 _ _ _ _ q; exact ⟨this.2.2.1, this.2.2.2.1, this.2.2.2.2⟩
  have hpR := h.ab.sR (a : Int)
  have hlim := (h.ab.a0 _ _ hA).2.2
  have hth : ((F (fn : Int)).isSome = false) ∨ ((F (fn : Int)).isSome = true ∧ ((F (fn : Int)).getD (0, 0, 0)).1 = a) := by
    rcases hF with hF | ⟨r, b, o, hF, ho⟩
    · rw [hF]; exact Or.inl rfl
    · rw [hF]; refine Or.inr ⟨rfl, ?_⟩; show o = a; omega
  obtain ⟨p, hp⟩ : ∃ p, sR F (a : Int) = p := ⟨_, rfl⟩
  obtain ⟨q, hq⟩ : ∃ q, sB F (a : Int) = q := ⟨_, rfl⟩
  obtain ⟨u, hu⟩ : ∃ u, sO F (a : Int) = u := ⟨_, rfl⟩
  obtain ⟨o, ho⟩ : ∃ o, ((F (fn : Int)).getD (0, 0, 0)).1 = o := ⟨_, rfl⟩
  obtain ⟨r, hr⟩ : ∃ r, ((F (fn : Int)).getD (0, 0, 0)).2.1 = r := ⟨_, rfl⟩
  obtain ⟨b, hb⟩ : ∃ b, ((F (fn : Int)).getD (0, 0, 0)).2.2 = b := ⟨_, rfl⟩
  rw [hr, hp] at e1
  rw [ho] at f1 hth
  rw [hr] at f2
  rw [hb] at f3
  rw [ho, hr, hb] at hbd
  rw [hp] at hpR
  have HB := Lib.hid hb
  have hoI : (o : Int) < 16 := by omega
  have hrI : (r : Int) ≤ 1000 := by omega
  have hbI : (b : Int) ≤ 1000 := by omega
  have hpI : (p : Int) ≤ 64000 := by omega
  have hlI : (lim : Int) ≤ 1000 := by omega
  have hb1000 : b ≤ 1000 := by omega
  have hw1 : IntKind.i64.wrap ((p : Int) - (r : Int)) = (p : Int) - (r : Int) := by rw [IntKind.wrap_i64]; omega
  have hw2 : IntKind.i64.wrap ((p : Int) - (r : Int) + (m : Int)) = (p : Int) - (r : Int) + (m : Int) := by rw [IntKind.wrap_i64]; omega
  have f1' : w.cell? ⟨l, 32 + fn * 4 + 1, none⟩ = some (.int .i64 (o : Int)) := f1
  have f2' : w.cell? ⟨l, 32 + fn * 4 + 2, none⟩ = some (.int .i64 (r : Int)) := f2
  have f3' : w.cell? ⟨l, 32 + fn * 4 + 3, none⟩ = some (.int .i64 (b : Int)) := f3
  have HC0 := Lib.hid e1
  have HP := Lib.hid hp
  have HQ := Lib.hid hq
  have HU := Lib.hid hu
  have hfd : ∀ w, (Instr.field 78 (Sums p q u) 0).run Try.prog w = .ok (.int .i64 (p : Int)) w := fun w => by kernel_rfl
  clear hgood h1 h2 h3 ca hA h hF f1 f2 f3 cl hbd ho hr hb hp hq hu e1 hpR hlim
  rcases hth with hth | ⟨hth, hoa⟩
  · rw [hth] at f0
    have f0' : w.cell? ⟨l, 32 + fn * 4, none⟩ = some (.bool false) := f0
    clear f0 hth
    go_enter Try.func25, Try.ntmps25
    go_wp2_with fail
    refine (isF_any _ _).mono ?_
    rintro e w' ⟨rfl, rfl⟩
    rw [HF1.out]
    go_wp2_with fail
    refine (isA_any _ _).mono ?_
    rintro e w' ⟨rfl, rfl⟩
    rw [HX.out]
    go_wp2_with fail
    refine (isC_any _ _).mono ?_
    rintro e w' ⟨rfl, rfl⟩
    rw [HN.out]
    go_upto_region 6 with (fail)
    have hb3 : Below w.heap.size w (w.alloc (.cells #[.bool false, .int .i64 (o : Int), .int .i64 (r : Int), .int .i64 (b : Int)] 73)) := (Below.refl _ _).alloc (Nat.le_refl _) _
    have H3 := Lib.hid (H.out.keep hb3 hl)
    have HC3 := Lib.hid ((Only.of_below (S := fun _ => False) hb3).cell (fun q => q) HCL.out)
    have hq3 := heap_alloc_new w (.cells #[.bool false, .int .i64 (o : Int), .int .i64 (r : Int), .int .i64 (b : Int)] 73)
    obtain ⟨g, hg⟩ : ∃ g, w.heap.size = g := ⟨_, rfl⟩
    rw [hg] at hq3
    rw [hg]
    have HG := Lib.hid hg
    have hgl : l < g := by omega
    clear hg f0' f1' f2' f3' ca'
    generalize w.alloc (.cells #[.bool false, .int .i64 (o : Int), .int .i64 (r : Int), .int .i64 (b : Int)] 73) = w3 at hb3 H3 HC3 hq3 ⊢
    have y0 := cell_of_row _ _ 0 _ _ _ hq3
    have y1 := cell_of_row _ _ 1 _ _ _ hq3
    have y2 := cell_of_row _ _ 2 _ _ _ hq3
    have y3 : w3.cell? ⟨g, 3, none⟩ = some (.int .i64 (b : Int)) := cell_of_row _ _ 3 _ _ _ hq3
    have y2' : w3.cell? ⟨g, 2, none⟩ = some (.int .i64 (r : Int)) := y2
    have hl3 := H3.out.lt
    clear hq3
    go_upto_region 8 with (fail)
    have HS0 := Lib.hid (show SFun w3 g l (a * 2 + 1) r lim w3.drew from ⟨y2', HC3.out, below_drewN (Below.refl _ _) 1⟩)
    have HY3 := Lib.hid y3
    clear y0 y1 y2 y3 y2'
    go_region_held3 (fun w' => w'.cell? ⟨g, 2, none⟩ = some (.int .i64 (r : Int)) ∧ w'.cell? ⟨l, a * 2 + 1, none⟩ = some (.int .i64 (lim : Int)) ∧ Below w3.heap.size w3 w') (first | exact HS0.out | exact sw.out | assumption)
      (first
        | (go_at_call 37; refine (l_sum l A F _ _ (H3.out.drewN 1)).mono ?_; rintro e w' ⟨rfl, hbw⟩; rw [HP.out, HQ.out, HU.out]; have hsw : SFun w3 g l (a * 2 + 1) r lim w' := SFun.below HS0.out hbw; have sw := Lib.hid hsw; clear hsw))
    have bE := hb3.trans (sw.out.2.2.mono hb3.size)
    have y3 := (Only.of_below (S := fun _ => False) sw.out.2.2).cell (x := ⟨g, 3, none⟩) (fun q => q) HY3.out
    have HE := Lib.hid (H3.out.keep sw.out.2.2 hl3)
    clear hbw sw HS0  HY3
    by_cases hc : (lim : Int) < (p : Int) - (r : Int) + (m : Int)
    · have hcd : decide ((lim : Int) < (p : Int) - (r : Int) + (m : Int)) = true := decide_eq_true hc
      have hA0 := HC0.out
      rw [if_pos hc] at hA0
      have HA0 := Lib.hid hA0
      clear hA0
      go_wp2_with fail
      go_ret
      rw [HA0.out]
      exact ⟨rfl, by rw [funF_no HA0.out]; exact HE.out, below_grown bE _⟩
    · have hcd : decide ((lim : Int) < (p : Int) - (r : Int) + (m : Int)) = false := decide_eq_false hc
      have hA0 := HC0.out
      rw [if_neg hc] at hA0
      have HA0 := Lib.hid hA0
      have hc' : (p : Int) - (r : Int) + (m : Int) ≤ (lim : Int) := by omega
      clear hc hA0
      go_wp2_with fail
      go_still_tail 10, (by kernel_rfl)
      change wpList _ _ _ _ _ w'.drew
      have hd := grown_drew (World.grownBy.refl w' (some l))
      have HE1 : Hid (Lg w'.drew l A F) := Lib.hid (HE.out.drewN 1)
      generalize w'.drew = w5 at hd HE1 ⊢
      refine wpList_store_fn rfl (.tmp 71) (.tmp 68) rfl l fn a m b rfl rfl A F HE1.out hfn ha hm hb1000 ?_
      intro w6 HG6 hg6
      clear y3 hcd
      go_wp2
      go_ret
      rw [HA0.out]
      refine ⟨rfl, ?_, grown_trans (grown_trans (below_grown bE _) hd) hg6⟩
      have e2 : funF A F (fn : Int) (a : Int) (m : Int) = updZ F (fn : Int) (some (a, m, b)) := by
        unfold funF; rw [HA0.out, if_pos rfl]
        simp only [Int.toNat_natCast, HB.out]
      rw [e2]; exact HG6.out
  · rw [hth] at f0
    have f0' : w.cell? ⟨l, 32 + fn * 4, none⟩ = some (.bool true) := f0
    have hoa' := hoa.symm
    clear hoa
    subst hoa'
    clear f0 hth
    go_enter Try.func25, Try.ntmps25
    go_wp2_with fail
    refine (isF_any _ _).mono ?_
    rintro e w' ⟨rfl, rfl⟩
    rw [HF1.out]
    go_wp2_with fail
    refine (isA_any _ _).mono ?_
    rintro e w' ⟨rfl, rfl⟩
    rw [HX.out]
    go_wp2_with fail
    refine (isC_any _ _).mono ?_
    rintro e w' ⟨rfl, rfl⟩
    rw [HN.out]
    go_upto_region 6 with (fail)
    have hb3 : Below w.heap.size w (w.alloc (.cells #[.bool true, .int .i64 (a : Int), .int .i64 (r : Int), .int .i64 (b : Int)] 73)) := (Below.refl _ _).alloc (Nat.le_refl _) _
    have H3 := Lib.hid (H.out.keep hb3 hl)
    have HC3 := Lib.hid ((Only.of_below (S := fun _ => False) hb3).cell (fun q => q) HCL.out)
    have hq3 := heap_alloc_new w (.cells #[.bool true, .int .i64 (a : Int), .int .i64 (r : Int), .int .i64 (b : Int)] 73)
    obtain ⟨g, hg⟩ : ∃ g, w.heap.size = g := ⟨_, rfl⟩
    rw [hg] at hq3
    rw [hg]
    have HG := Lib.hid hg
    have hgl : l < g := by omega
    clear hg f0' f1' f2' f3' ca'
    generalize w.alloc (.cells #[.bool true, .int .i64 (a : Int), .int .i64 (r : Int), .int .i64 (b : Int)] 73) = w3 at hb3 H3 HC3 hq3 ⊢
    have y0 := cell_of_row _ _ 0 _ _ _ hq3
    have y1 := cell_of_row _ _ 1 _ _ _ hq3
    have y2 := cell_of_row _ _ 2 _ _ _ hq3
    have y3 : w3.cell? ⟨g, 3, none⟩ = some (.int .i64 (b : Int)) := cell_of_row _ _ 3 _ _ _ hq3
    have y2' : w3.cell? ⟨g, 2, none⟩ = some (.int .i64 (r : Int)) := y2
    have hl3 := H3.out.lt
    clear hq3
    go_upto_region 8 with (fail)
    have HS0 := Lib.hid (show SFun w3 g l (a * 2 + 1) r lim w3.drew from ⟨y2', HC3.out, below_drewN (Below.refl _ _) 1⟩)
    have HY3 := Lib.hid y3
    clear y0 y1 y2 y3 y2'
    go_region_held3 (fun w' => w'.cell? ⟨g, 2, none⟩ = some (.int .i64 (r : Int)) ∧ w'.cell? ⟨l, a * 2 + 1, none⟩ = some (.int .i64 (lim : Int)) ∧ Below w3.heap.size w3 w') (first | exact HS0.out | exact sw.out | assumption)
      (first
        | (go_at_call 37; refine (l_sum l A F _ _ (H3.out.drewN 1)).mono ?_; rintro e w' ⟨rfl, hbw⟩; rw [HP.out, HQ.out, HU.out]; have hsw : SFun w3 g l (a * 2 + 1) r lim w' := SFun.below HS0.out hbw; have sw := Lib.hid hsw; clear hsw))
    have bE := hb3.trans (sw.out.2.2.mono hb3.size)
    have y3 := (Only.of_below (S := fun _ => False) sw.out.2.2).cell (x := ⟨g, 3, none⟩) (fun q => q) HY3.out
    have HE := Lib.hid (H3.out.keep sw.out.2.2 hl3)
    clear hbw sw HS0  HY3
    by_cases hc : (lim : Int) < (p : Int) - (r : Int) + (m : Int)
    · have hcd : decide ((lim : Int) < (p : Int) - (r : Int) + (m : Int)) = true := decide_eq_true hc
      have hA0 := HC0.out
      rw [if_pos hc] at hA0
      have HA0 := Lib.hid hA0
      clear hA0
      go_wp2_with fail
      go_ret
      rw [HA0.out]
      exact ⟨rfl, by rw [funF_no HA0.out]; exact HE.out, below_grown bE _⟩
    · have hcd : decide ((lim : Int) < (p : Int) - (r : Int) + (m : Int)) = false := decide_eq_false hc
      have hA0 := HC0.out
      rw [if_neg hc] at hA0
      have HA0 := Lib.hid hA0
      have hc' : (p : Int) - (r : Int) + (m : Int) ≤ (lim : Int) := by omega
      clear hc hA0
      go_wp2_with fail
      go_still_tail 10, (by kernel_rfl)
      change wpList _ _ _ _ _ w'.drew
      have hd := grown_drew (World.grownBy.refl w' (some l))
      have HE1 : Hid (Lg w'.drew l A F) := Lib.hid (HE.out.drewN 1)
      generalize w'.drew = w5 at hd HE1 ⊢
      refine wpList_store_fn rfl (.tmp 71) (.tmp 68) rfl l fn a m b rfl rfl A F HE1.out hfn ha hm hb1000 ?_
      intro w6 HG6 hg6
      clear y3 hcd
      go_wp2
      go_ret
      rw [HA0.out]
      refine ⟨rfl, ?_, grown_trans (grown_trans (below_grown bE _) hd) hg6⟩
      have e2 : funF A F (fn : Int) (a : Int) (m : Int) = updZ F (fn : Int) (some (a, m, b)) := by
        unfold funF; rw [HA0.out, if_pos rfl]
        simp only [Int.toNat_natCast, HB.out]
      rw [e2]; exact HG6.out

theorem l_setF (l : Nat) (A : Int → Option Nat) (F : Int → Option Fn) (f x n : Int) (w : World) (h : Lg w l A F) :
    Calls Try.prog 25 #[.pointer (some ⟨l, 0, none⟩), .int .i64 f, .int .i64 x, .int .i64 n] w fun e w' => e = .returned (.int .i64 (funC A F f x n : Int)) ∧ Lg w' l A (funF A F f x n) ∧ w.grownBy w' (some l) := by
  cases hg : (isF f && isA x && isC n) with
  | false => exact l_setF0 l A F f x n w h hg
  | true =>
    cases hA : A x with
    | none => exact l_setF2 l A F f x n w h hg hA
    | some lim =>
      cases hF : F f with
      | none => exact l_setF4 l A F f x n w h hg lim hA (Or.inl hF)
      | some v =>
        obtain ⟨o, r, b⟩ := v
        by_cases ho : (o : Int) = x
        · exact l_setF4 l A F f x n w h hg lim hA (Or.inr ⟨r, b, o, hF, ho⟩)
        · exact l_setF3 l A F f x n w h hg lim o r b hA hF ho

end Go.Proofs.Ytancebpkiioaiaa.W
