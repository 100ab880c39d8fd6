/- The page's model of package quota: SetFunc. -/
import Derived.Test.YtancebpkiioaiaaQuoP
namespace Go.Proofs.Ytancebpkiioaiaa.W
open Go.RowKit Go.Maps Go.ChangeMaps Go.MapKept
set_option linter.unusedVariables false

set_option maxRecDepth 100000 in
set_option maxHeartbeats 3200000 in
theorem m_setF0 (w : World) (m bl bf K : Nat) (A : Int → Option Nat) (F : Int → Option Fn) (f x n : Int) (h : Md w m bl bf K A F) (hK : K < 100000) (hbad : (isF f && isA x && isC n) = false) :
    Calls Try.prog 26 #[.pointer (some ⟨m, 0, none⟩), .int .i64 f, .int .i64 x, .int .i64 n] w fun e w' => e = .returned (.int .i64 (funC A F f x n : Int)) ∧ Md w' m bl bf (K + 1) A (funF A F f x n) ∧ w.grownBy w' (some bf) := by
  have H := Lib.hid h
  have e1 := funC_bad (A := A) (F := F) hbad
  rw [funF_no e1, e1]
  clear h e1
  by_cases h0 : f < 0
  · have d0 : decide (f < 0) = true := decide_eq_true h0
    clear hbad
    go_enter Try.func26, Try.ntmps26
    go_wp2
    go_ret
    exact ⟨rfl, H.out.more (by omega), World.grownBy.refl _ _⟩
  have d0 : decide (f < 0) = false := decide_eq_false h0
  by_cases h1 : 63 < f
  · have d1 : decide (63 < f) = true := decide_eq_true h1
    clear hbad h0
    go_enter Try.func26, Try.ntmps26
    go_wp2
    go_ret
    exact ⟨rfl, H.out.more (by omega), World.grownBy.refl _ _⟩
  have d1 : decide (63 < f) = false := decide_eq_false h1
  by_cases h2 : x < 0
  · have d2 : decide (x < 0) = true := decide_eq_true h2
    clear hbad h0 h1
    go_enter Try.func26, Try.ntmps26
    go_wp2
    go_ret
    exact ⟨rfl, H.out.more (by omega), World.grownBy.refl _ _⟩
  have d2 : decide (x < 0) = false := decide_eq_false h2
  by_cases h3 : 15 < x
  · have d3 : decide (15 < x) = true := decide_eq_true h3
    clear hbad h0 h1 h2
    go_enter Try.func26, Try.ntmps26
    go_wp2
    go_ret
    exact ⟨rfl, H.out.more (by omega), World.grownBy.refl _ _⟩
  have d3 : decide (15 < x) = false := decide_eq_false h3
  by_cases h4 : n < 0
  · have d4 : decide (n < 0) = true := decide_eq_true h4
    clear hbad h0 h1 h2 h3
    go_enter Try.func26, Try.ntmps26
    go_wp2
    go_ret
    exact ⟨rfl, H.out.more (by omega), World.grownBy.refl _ _⟩
  have d4 : decide (n < 0) = false := decide_eq_false h4
  have d5 : decide (1000 < n) = true := decide_eq_true (by
    rcases Int.lt_or_le 1000 n with q | q
    · exact q
    · rw [isF_iff.2 (by omega), isA_iff.2 (by omega), isC_iff.2 (by omega)] at hbad; cases hbad)
  clear hbad h0 h1 h2 h3 h4
  go_enter Try.func26, Try.ntmps26
  go_wp2
  go_ret
  exact ⟨rfl, H.out.more (by omega), World.grownBy.refl _ _⟩

set_option maxRecDepth 100000 in
set_option maxHeartbeats 3200000 in
theorem m_setF2 (w : World) (m bl bf K : Nat) (A : Int → Option Nat) (F : Int → Option Fn) (f x n : Int) (h : Md w m bl bf K A F) (hK : K < 100000) (hgood : (isF f && isA x && isC n) = true) (hA : A x = none) :
    Calls Try.prog 26 #[.pointer (some ⟨m, 0, none⟩), .int .i64 f, .int .i64 x, .int .i64 n] w fun e w' => e = .returned (.int .i64 (funC A F f x n : Int)) ∧ Md w' m bl bf (K + 1) A (funF A F f x n) ∧ w.grownBy w' (some bf) := by
  have H := Lib.hid h
  have hgo := hgood
  simp only [Bool.and_eq_true] at hgo
  obtain ⟨⟨g1, g2⟩, g3⟩ := hgo
  have e1 := funC_none (F := F) hgood hA
  rw [funF_no e1, e1]
  obtain ⟨a, rfl, ha⟩ := isA_nat g2
  obtain ⟨fn, rfl, hfn⟩ := isF_nat g1
  obtain ⟨k, rfl, hk⟩ := isC_nat g3
  have d0 : decide ((fn : Int) < 0) = false := decide_eq_false (by omega)
  have d1 : decide ((63 : Int) < (fn : Int)) = false := decide_eq_false (by omega)
  have d2 : decide ((a : Int) < 0) = false := decide_eq_false (by omega)
  have d3 : decide ((15 : Int) < (a : Int)) = false := decide_eq_false (by omega)
  have d4 : decide ((k : Int) < 0) = false := decide_eq_false (by omega)
  have d5 : decide ((1000 : Int) < (k : Int)) = false := decide_eq_false (by omega)
  have hwa : (KL (a : Int)).wf = true := wf_small (by omega)
  have hwf : (KL (fn : Int)).wf = true := wf_small (by omega)
  have haI : (a : Int) < 16 := by omega
  have hkI : (k : Int) ≤ 1000 := by omega
  have c0 := h.c0
  have c1 := h.c1
  obtain ⟨cl, hcl, hpl⟩ := h.la
  obtain ⟨cf, hcf, hpf⟩ := h.lf
  have HPL := Lib.hid hpl
  have HPF := Lib.hid hpf
  have HMA := Lib.hid (MA_none hA)
  clear e1 hgood g1 g2 g3 hA h hpl hpf c1 HPF
  go_enter Try.func26, Try.ntmps26
  go_wp2_with (at_lookup; refine wpList_mp_none rfl (.tmp 42) (.tmp 43) 52 rfl 3 3 Try.underlying3 Try.underlying52 (zeroN _) bl _ cl rfl HPL.out (a : Int) rfl hwa HMA.out ?_)
  go_ret
  exact ⟨rfl, H.out.more (by omega), World.grownBy.refl _ _⟩

set_option maxRecDepth 100000 in
set_option maxHeartbeats 3200000 in
theorem m_setF3 (w : World) (m bl bf K : Nat) (A : Int → Option Nat) (F : Int → Option Fn) (f x n : Int) (h : Md w m bl bf K A F) (hK : K < 100000) (hgood : (isF f && isA x && isC n) = true) (lim o r b : Nat) (hA : A x = some lim) (hF : F f = some (o, r, b)) (ho : (o : Int) ≠ x) :
    Calls Try.prog 26 #[.pointer (some ⟨m, 0, none⟩), .int .i64 f, .int .i64 x, .int .i64 n] w fun e w' => e = .returned (.int .i64 (funC A F f x n : Int)) ∧ Md w' m bl bf (K + 1) A (funF A F f x n) ∧ w.grownBy w' (some bf) := by
  have H := Lib.hid h
  have hgo := hgood
  simp only [Bool.and_eq_true] at hgo
  obtain ⟨⟨g1, g2⟩, g3⟩ := hgo
  have e1 := funC_other hgood hA hF ho
  rw [funF_no e1, e1]
  obtain ⟨a, rfl, ha⟩ := isA_nat g2
  obtain ⟨fn, rfl, hfn⟩ := isF_nat g1
  obtain ⟨k, rfl, hk⟩ := isC_nat g3
  have d0 : decide ((fn : Int) < 0) = false := decide_eq_false (by omega)
  have d1 : decide ((63 : Int) < (fn : Int)) = false := decide_eq_false (by omega)
  have d2 : decide ((a : Int) < 0) = false := decide_eq_false (by omega)
  have d3 : decide ((15 : Int) < (a : Int)) = false := decide_eq_false (by omega)
  have d4 : decide ((k : Int) < 0) = false := decide_eq_false (by omega)
  have d5 : decide ((1000 : Int) < (k : Int)) = false := decide_eq_false (by omega)
  have hwa : (KL (a : Int)).wf = true := wf_small (by omega)
  have hwf : (KL (fn : Int)).wf = true := wf_small (by omega)
  have haI : (a : Int) < 16 := by omega
  have hkI : (k : Int) ≤ 1000 := by omega
  have c0 := h.c0
  have c1 := h.c1
  obtain ⟨cl, hcl, hpl⟩ := h.la
  obtain ⟨cf, hcf, hpf⟩ := h.lf
  have HPL := Lib.hid hpl
  have HPF := Lib.hid hpf
  have HMA := Lib.hid (MA_is hA)
  have HMF := Lib.hid (MF_is hF)
  have ho' : ((o : Int) == (a : Int)) = false := by simpa using ho
  have hoN : ¬ o = a := by omega
  have hbx : Below w.heap.size w (w.alloc (.cells [Value.int .i64 (o : Int), .int .i64 (r : Int), .int .i64 (b : Int)].toArray 50)) := (Below.refl _ _).alloc (Nat.le_refl _) _
  clear e1 hgood g1 g2 g3 hA hF h hpl hpf ho
  go_enter Try.func26, Try.ntmps26
  go_wp2_with (first
    | (at_lookup; refine wpList_mp_some rfl (.tmp 42) (.tmp 43) 52 rfl 3 3 Try.underlying3 Try.underlying52 (zeroN _) bl _ cl rfl HPL.out (a : Int) rfl hwa (.int .i64 (lim : Int)) HMA.out ?_)
    | (at_lookup; refine wpList_mp_some rfl (.tmp 53) (.tmp 54) 53 rfl 3 50 Try.underlying3 Try.underlying53 (zeroF' _) bf _ cf rfl HPF.out (fn : Int) rfl hwf (.agg #[.int .i64 (o : Int), .int .i64 (r : Int), .int .i64 (b : Int)]) HMF.out ?_))
  go_ret
  exact ⟨rfl, (H.out.below hbx).more (by omega), below_grown hbx _⟩

theorem sizeN : (Try.prog.info? 3).map (·.size) = some 1 := by kernel_rfl

set_option maxRecDepth 100000 in
set_option maxHeartbeats 3200000 in
theorem m_setF4 (w : World) (m bl bf K : Nat) (A : Int → Option Nat) (F : Int → Option Fn) (f x n : Int) (h : Md w m bl bf K A F) (hK : K < 100000) (hgood : (isF f && isA x && isC n) = true) (lim : Nat) (hA : A x = some lim) (hF : F f = none) :
    Calls Try.prog 26 #[.pointer (some ⟨m, 0, none⟩), .int .i64 f, .int .i64 x, .int .i64 n] w fun e w' => e = .returned (.int .i64 (funC A F f x n : Int)) ∧ Md w' m bl bf (K + 1) A (funF A F f x n) ∧ w.grownBy w' (some bf) := by
  have H := Lib.hid h
  have hgo := hgood
  simp only [Bool.and_eq_true] at hgo
  obtain ⟨⟨g1, g2⟩, g3⟩ := hgo
  have e1 := funC_go hgood hA (Or.inl hF)
  obtain ⟨a, rfl, ha⟩ := isA_nat g2
  obtain ⟨fn, rfl, hfn⟩ := isF_nat g1
  obtain ⟨k, rfl, hk⟩ := isC_nat g3
  have d0 : decide ((fn : Int) < 0) = false := decide_eq_false (by omega)
  have d1 : decide ((63 : Int) < (fn : Int)) = false := decide_eq_false (by omega)
  have d2 : decide ((a : Int) < 0) = false := decide_eq_false (by omega)
  have d3 : decide ((15 : Int) < (a : Int)) = false := decide_eq_false (by omega)
  have d4 : decide ((k : Int) < 0) = false := decide_eq_false (by omega)
  have d5 : decide ((1000 : Int) < (k : Int)) = false := decide_eq_false (by omega)
  have hwa : (KL (a : Int)).wf = true := wf_small (by omega)
  have hwf : (KL (fn : Int)).wf = true := wf_small (by omega)
  have haI : (a : Int) < 16 := by omega
  have hkI : (k : Int) ≤ 1000 := by omega
  have c0 := h.c0
  have c1 := h.c1
  obtain ⟨cl, hcl, hpl⟩ := h.la
  obtain ⟨cf, hcf, hpf⟩ := h.lf
  have HPL := Lib.hid hpl
  have HPF := Lib.hid hpf
  rw [hF] at e1
  simp only [Option.getD_none] at e1
  have HMF := Lib.hid (MF_none hF)
  have HBY := Lib.hid (busy_none hF)
  have hp1 := h.ab.sR (a : Int)
  have hlim := (h.ab.a0 _ _ hA).2.2
  obtain ⟨p, hp⟩ : ∃ p, sR F (a : Int) = p := ⟨_, rfl⟩
  rw [hp] at e1 hp1
  have hpI : (p : Int) ≤ 64000 := by omega
  have hlI : (lim : Int) ≤ 1000 := by omega
  have HMA := Lib.hid (MA_is hA)
  have HC0 := Lib.hid e1
  have HP := Lib.hid hp
  have hlt := h.lt
  clear e1 hgood g1 g2 g3 hA hF h hpl hpf hp hp1 hlim
  go_enter Try.func26, Try.ntmps26
  go_upto_region 7 with (first
    | (at_lookup; refine wpList_mp_some rfl (.tmp 42) (.tmp 43) 52 rfl 3 3 Try.underlying3 Try.underlying52 (zeroN _) bl _ cl rfl HPL.out (a : Int) rfl hwa (.int .i64 (lim : Int)) HMA.out ?_)
    | (at_lookup; refine wpList_mp_none rfl (.tmp 53) (.tmp 54) 53 rfl 3 50 Try.underlying3 Try.underlying53 (zeroF' _) bf _ cf rfl HPF.out (fn : Int) rfl hwf HMF.out ?_))
  have hb3 : Below w.heap.size w (w.alloc (.cells [Value.int .i64 0, .int .i64 0, .int .i64 0].toArray 50)) := (Below.refl _ _).alloc (Nat.le_refl _) _
  have H3 := Lib.hid (H.out.below hb3)
  have HQ3 := Lib.hid (heap_alloc_new w (.cells [Value.int .i64 0, .int .i64 0, .int .i64 0].toArray 50))
  obtain ⟨g, hg⟩ : ∃ g, w.heap.size = g := ⟨_, rfl⟩
  have hgw : w.heap.size ≤ g := Nat.le_of_eq hg
  rw [hg] at HQ3 hlt
  rw [hg]
  clear hg c0 c1 HPL HPF HMA HMF
  generalize w.alloc (.cells [Value.int .i64 0, .int .i64 0, .int .i64 0].toArray 50) = w3 at hb3 H3 HQ3 ⊢
  have y0 := cellL HQ3.out 0 _ rfl
  go_wp2_with fail
  refine (m_sum w3 m bl bf K A F (a : Int) H3.out).mono ?_
  rintro e w4 ⟨rfl, b4⟩
  rw [HP.out]
  have H4 := Lib.hid (H3.out.below b4)
  have HQ4 := Lib.hid ((Only.of_below (S := fun _ => False) b4).blk (fun q => q) HQ3.out)
  have bb4 := hb3.trans (b4.mono hb3.size)
  clear y0 H3 HQ3 hb3 b4
  have y1 := cellL HQ4.out 1 _ rfl
  by_cases hc : (lim : Int) < (p : Int) + (k : Int)
  · have hcd : decide ((lim : Int) < (p : Int) + (k : Int)) = true := decide_eq_true hc
    have hA0 := HC0.out
    rw [if_pos (by omega)] at hA0
    have HA0 := Lib.hid hA0
    clear hA0
    go_wp2_with fail
    go_ret
    rw [HA0.out]
    exact ⟨rfl, by rw [funF_no HA0.out]; exact H4.out.more (by omega), below_grown bb4 _⟩
  · have hcd : decide ((lim : Int) < (p : Int) + (k : Int)) = false := decide_eq_false hc
    have hc' : (p : Int) + (k : Int) ≤ (lim : Int) := by omega
    have hA0 := HC0.out
    rw [if_neg (by omega)] at hA0
    have HA0 := Lib.hid hA0
    clear hA0 hc
    go_wp2_with (first
      | (with_reducible refine wpList_store_in rfl 3 (.tmp 83) (.tmp 82) rfl sizeN g 0 rfl .i64 (a : Int) rfl _ _ HQ4.out (len3_0 _ _ _) ?_; intro w5 HQ5 hg5)
      | (with_reducible refine wpList_store_in rfl 3 (.tmp 85) (.tmp 84) rfl sizeN g 1 rfl .i64 (k : Int) rfl _ _ HQ5.out (by simp) ?_; intro w6 HQ6 hg6))
    have hg56 := grown_trans hg5 hg6
    have bb6 := below_row bb4 hgw hg56 bb4.size
    have H6 := Lib.hid (H4.out.off hg56 (by omega) (by omega) (by omega))
    clear y1 hg5 hg6 hg56 H4 HQ4 bb4 HQ5
    have z0 := cellL HQ6.out 0 _ rfl
    have z1 := cellL HQ6.out 1 _ rfl
    have z2 := cellL HQ6.out 2 _ rfl
    have c1 := H6.out.c1
    obtain ⟨c, hc, hp1⟩ := H6.out.lf
    obtain ⟨c', hc2⟩ : ∃ c', c' = if (MF F (fn : Int)).isSome then c else c + 1 := ⟨_, rfl⟩
    have hc1 : c' ≤ K + 1 := by rw [hc2]; split <;> omega
    have hml : c < maxLen := by have := keys_small; omega
    have HC := Lib.hid hc2
    have HMP := Lib.hid hp1
    have HC1 := Lib.hid hc1
    clear hc2 hp1 hc1
    go_still_tail 6, (by kernel_rfl)
    change wpList _ _ _ _ _ w6.drew
    have hd := grown_drew (World.grownBy.refl w6 (some bf))
    have H7 : Hid (Md w6.drew m bl bf K A F) := Lib.hid (H6.out.drewN 1)
    have HM7 : Hid (Mp Try.prog 3 w6.drew bf (MF F) c) := Lib.hid (HMP.out.drewN 1)
    generalize w6.drew = w7 at hd H7 HM7 ⊢
    refine wpList_mp_set rfl (.tmp 89) (.tmp 90) (.tmp 91) 53 rfl 3 50 Try.underlying3 Try.underlying53 bf _ c rfl HM7.out hml (fn : Int) rfl hwf (FnV (a, k, 0)) rfl c' HC.out ?_
    intro w8 hm8 hg8
    clear z0 z1 z2 c1
    go_wp2
    go_ret
    rw [HA0.out]
    refine ⟨rfl, ?_, grown_trans (grown_trans (below_grown bb6 _) hd) hg8⟩
    rw [funF_yes (x := a) (n := k) HA0.out, HBY.out]
    exact H7.out.setF hfn ha hk (by omega) hg8 HC1.out hm8

set_option maxRecDepth 100000 in
set_option maxHeartbeats 3200000 in
theorem m_setF5 (w : World) (m bl bf K : Nat) (A : Int → Option Nat) (F : Int → Option Fn) (f x n : Int) (h : Md w m bl bf K A F) (hK : K < 100000) (hgood : (isF f && isA x && isC n) = true) (lim : Nat) (hA : A x = some lim) (r b o : Nat) (hF : F f = some (o, r, b)) (ho : (o : Int) = x) :
    Calls Try.prog 26 #[.pointer (some ⟨m, 0, none⟩), .int .i64 f, .int .i64 x, .int .i64 n] w fun e w' => e = .returned (.int .i64 (funC A F f x n : Int)) ∧ Md w' m bl bf (K + 1) A (funF A F f x n) ∧ w.grownBy w' (some bf) := by
  have H := Lib.hid h
  have hgo := hgood
  simp only [Bool.and_eq_true] at hgo
  obtain ⟨⟨g1, g2⟩, g3⟩ := hgo
  have e1 := funC_go hgood hA (Or.inr ⟨r, b, o, hF, ho⟩)
  obtain ⟨a, rfl, ha⟩ := isA_nat g2
  obtain ⟨fn, rfl, hfn⟩ := isF_nat g1
  obtain ⟨k, rfl, hk⟩ := isC_nat g3
  have d0 : decide ((fn : Int) < 0) = false := decide_eq_false (by omega)
  have d1 : decide ((63 : Int) < (fn : Int)) = false := decide_eq_false (by omega)
  have d2 : decide ((a : Int) < 0) = false := decide_eq_false (by omega)
  have d3 : decide ((15 : Int) < (a : Int)) = false := decide_eq_false (by omega)
  have d4 : decide ((k : Int) < 0) = false := decide_eq_false (by omega)
  have d5 : decide ((1000 : Int) < (k : Int)) = false := decide_eq_false (by omega)
  have hwa : (KL (a : Int)).wf = true := wf_small (by omega)
  have hwf : (KL (fn : Int)).wf = true := wf_small (by omega)
  have haI : (a : Int) < 16 := by omega
  have hkI : (k : Int) ≤ 1000 := by omega
  have c0 := h.c0
  have c1 := h.c1
  obtain ⟨cl, hcl, hpl⟩ := h.la
  obtain ⟨cf, hcf, hpf⟩ := h.lf
  have HPL := Lib.hid hpl
  have HPF := Lib.hid hpf
  obtain rfl : a = o := by omega
  have hbd := h.ab.f0 _ _ _ _ hF
  rw [hF] at e1
  simp only [Option.getD_some] at e1
  have hrI : (r : Int) ≤ 1000 := by omega
  have hbI : (b : Int) ≤ 1000 := by omega
  have hb1 : b ≤ 1000 := by omega
  have HMF := Lib.hid (MF_is hF)
  have HBY := Lib.hid (busy_some hF)
  have hp1 := h.ab.sR (a : Int)
  have hlim := (h.ab.a0 _ _ hA).2.2
  obtain ⟨p, hp⟩ : ∃ p, sR F (a : Int) = p := ⟨_, rfl⟩
  rw [hp] at e1 hp1
  have hpI : (p : Int) ≤ 64000 := by omega
  have hlI : (lim : Int) ≤ 1000 := by omega
  have HMA := Lib.hid (MA_is hA)
  have HC0 := Lib.hid e1
  have HP := Lib.hid hp
  have hlt := h.lt
  clear e1 hgood g1 g2 g3 hA hF h hpl hpf hp hp1 hlim
  go_enter Try.func26, Try.ntmps26
  go_upto_region 7 with (first
    | (at_lookup; refine wpList_mp_some rfl (.tmp 42) (.tmp 43) 52 rfl 3 3 Try.underlying3 Try.underlying52 (zeroN _) bl _ cl rfl HPL.out (a : Int) rfl hwa (.int .i64 (lim : Int)) HMA.out ?_)
    | (at_lookup; refine wpList_mp_some rfl (.tmp 53) (.tmp 54) 53 rfl 3 50 Try.underlying3 Try.underlying53 (zeroF' _) bf _ cf rfl HPF.out (fn : Int) rfl hwf (.agg #[.int .i64 (a : Int), .int .i64 (r : Int), .int .i64 (b : Int)]) HMF.out ?_))
  have hb3 : Below w.heap.size w (w.alloc (.cells [Value.int .i64 (a : Int), .int .i64 (r : Int), .int .i64 (b : Int)].toArray 50)) := (Below.refl _ _).alloc (Nat.le_refl _) _
  have H3 := Lib.hid (H.out.below hb3)
  have HQ3 := Lib.hid (heap_alloc_new w (.cells [Value.int .i64 (a : Int), .int .i64 (r : Int), .int .i64 (b : Int)].toArray 50))
  obtain ⟨g, hg⟩ : ∃ g, w.heap.size = g := ⟨_, rfl⟩
  have hgw : w.heap.size ≤ g := Nat.le_of_eq hg
  rw [hg] at HQ3 hlt
  rw [hg]
  clear hg c0 c1 HPL HPF HMA HMF
  generalize w.alloc (.cells [Value.int .i64 (a : Int), .int .i64 (r : Int), .int .i64 (b : Int)].toArray 50) = w3 at hb3 H3 HQ3 ⊢
  have y0 := cellL HQ3.out 0 _ rfl
  go_wp2_with fail
  refine (m_sum w3 m bl bf K A F (a : Int) H3.out).mono ?_
  rintro e w4 ⟨rfl, b4⟩
  rw [HP.out]
  have H4 := Lib.hid (H3.out.below b4)
  have HQ4 := Lib.hid ((Only.of_below (S := fun _ => False) b4).blk (fun q => q) HQ3.out)
  have bb4 := hb3.trans (b4.mono hb3.size)
  clear y0 H3 HQ3 hb3 b4
  have y1 := cellL HQ4.out 1 _ rfl
  by_cases hc : (lim : Int) < (p : Int) - (r : Int) + (k : Int)
  · have hcd : decide ((lim : Int) < (p : Int) - (r : Int) + (k : Int)) = true := decide_eq_true hc
    have hA0 := HC0.out
    rw [if_pos (by omega)] at hA0
    have HA0 := Lib.hid hA0
    clear hA0
    go_wp2_with fail
    go_ret
    rw [HA0.out]
    exact ⟨rfl, by rw [funF_no HA0.out]; exact H4.out.more (by omega), below_grown bb4 _⟩
  · have hcd : decide ((lim : Int) < (p : Int) - (r : Int) + (k : Int)) = false := decide_eq_false hc
    have hc' : (p : Int) - (r : Int) + (k : Int) ≤ (lim : Int) := by omega
    have hA0 := HC0.out
    rw [if_neg (by omega)] at hA0
    have HA0 := Lib.hid hA0
    clear hA0 hc
    go_wp2_with (first
      | (with_reducible refine wpList_store_in rfl 3 (.tmp 83) (.tmp 82) rfl sizeN g 0 rfl .i64 (a : Int) rfl _ _ HQ4.out (len3_0 _ _ _) ?_; intro w5 HQ5 hg5)
      | (with_reducible refine wpList_store_in rfl 3 (.tmp 85) (.tmp 84) rfl sizeN g 1 rfl .i64 (k : Int) rfl _ _ HQ5.out (by simp) ?_; intro w6 HQ6 hg6))
    have hg56 := grown_trans hg5 hg6
    have bb6 := below_row bb4 hgw hg56 bb4.size
    have H6 := Lib.hid (H4.out.off hg56 (by omega) (by omega) (by omega))
    clear y1 hg5 hg6 hg56 H4 HQ4 bb4 HQ5
    have z0 := cellL HQ6.out 0 _ rfl
    have z1 := cellL HQ6.out 1 _ rfl
    have z2 := cellL HQ6.out 2 _ rfl
    have c1 := H6.out.c1
    obtain ⟨c, hc, hp1⟩ := H6.out.lf
    obtain ⟨c', hc2⟩ : ∃ c', c' = if (MF F (fn : Int)).isSome then c else c + 1 := ⟨_, rfl⟩
    have hc1 : c' ≤ K + 1 := by rw [hc2]; split <;> omega
    have hml : c < maxLen := by have := keys_small; omega
    have HC := Lib.hid hc2
    have HMP := Lib.hid hp1
    have HC1 := Lib.hid hc1
    clear hc2 hp1 hc1
    go_still_tail 6, (by kernel_rfl)
    change wpList _ _ _ _ _ w6.drew
    have hd := grown_drew (World.grownBy.refl w6 (some bf))
    have H7 : Hid (Md w6.drew m bl bf K A F) := Lib.hid (H6.out.drewN 1)
    have HM7 : Hid (Mp Try.prog 3 w6.drew bf (MF F) c) := Lib.hid (HMP.out.drewN 1)
    generalize w6.drew = w7 at hd H7 HM7 ⊢
    refine wpList_mp_set rfl (.tmp 89) (.tmp 90) (.tmp 91) 53 rfl 3 50 Try.underlying3 Try.underlying53 bf _ c rfl HM7.out hml (fn : Int) rfl hwf (FnV (a, k, b)) rfl c' HC.out ?_
    intro w8 hm8 hg8
    clear z0 z1 z2 c1
    go_wp2
    go_ret
    rw [HA0.out]
    refine ⟨rfl, ?_, grown_trans (grown_trans (below_grown bb6 _) hd) hg8⟩
    rw [funF_yes (x := a) (n := k) HA0.out, HBY.out]
    exact H7.out.setF hfn ha hk hb1 hg8 HC1.out hm8

theorem m_setF (w : World) (m bl bf K : Nat) (A : Int → Option Nat) (F : Int → Option Fn) (f x n : Int) (h : Md w m bl bf K A F) (hK : K < 100000) :
    Calls Try.prog 26 #[.pointer (some ⟨m, 0, none⟩), .int .i64 f, .int .i64 x, .int .i64 n] w fun e w' => e = .returned (.int .i64 (funC A F f x n : Int)) ∧ Md w' m bl bf (K + 1) A (funF A F f x n) ∧ w.grownBy w' (some bf) := by
  cases hg : (isF f && isA x && isC n) with
  | false => exact m_setF0 w m bl bf K A F f x n h hK hg
  | true =>
    cases hA : A x with
    | none => exact m_setF2 w m bl bf K A F f x n h hK hg hA
    | some lim =>
      cases hF : F f with
      | none => exact m_setF4 w m bl bf K A F f x n h hK hg lim hA hF
      | some v =>
        obtain ⟨o, r, b⟩ := v
        by_cases ho : (o : Int) = x
        · exact m_setF5 w m bl bf K A F f x n h hK hg lim hA r b o hF ho
        · exact m_setF3 w m bl bf K A F f x n h hK hg lim o r b hA hF ho

end Go.Proofs.Ytancebpkiioaiaa.W
