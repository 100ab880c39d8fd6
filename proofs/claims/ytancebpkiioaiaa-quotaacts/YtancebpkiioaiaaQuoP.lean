/- The page's model of package quota: Ask, SetFunc. -/
import Derived.Test.YtancebpkiioaiaaQuoO
namespace Go.Proofs.Ytancebpkiioaiaa.W
open Go.RowKit Go.Maps Go.ChangeMaps Go.MapKept

theorem MF_none {F : Int → Option Fn} {z : Int} (h : F z = none) : MF F z = none := by show (F z).map _ = _; rw [h]; rfl
theorem MF_is {F : Int → Option Fn} {z : Int} {o r b : Nat} (h : F z = some (o, r, b)) : MF F z = some (.agg #[.int .i64 (o : Int), .int .i64 (r : Int), .int .i64 (b : Int)]) := by show (F z).map _ = _; rw [h]; rfl
theorem MA_none {A : Int → Option Nat} {z : Int} (h : A z = none) : MA A z = none := by show (A z).map _ = _; rw [h]; rfl
theorem MA_is {A : Int → Option Nat} {z : Int} {n : Nat} (h : A z = some n) : MA A z = some (.int .i64 (n : Int)) := by show (A z).map _ = _; rw [h]; rfl
theorem zeroF' (w : World) : (zeroValue 50).run Try.prog w = .ok (.agg #[.int .i64 0, .int .i64 0, .int .i64 0]) w := zeroF w

set_option maxRecDepth 100000 in
set_option maxHeartbeats 3200000 in
theorem m_ask0 (w : World) (m bl bf K : Nat) (A : Int → Option Nat) (F : Int → Option Fn) (x : Int) (h : Md w m bl bf K A F) (hw : (KL x).wf = true) (hF : F x = none) :
    Calls Try.prog 22 #[.pointer (some ⟨m, 0, none⟩), .int .i64 x] w fun e w' => e = .returned (.tuple #[.int .i64 ((askC A F x).1 : Int), .bool (askC A F x).2]) ∧ Below w.heap.size w w' := by
  rw [ask_none hF]
  have c1 := h.c1
  obtain ⟨c, hc, hp⟩ := h.lf
  have HP := Lib.hid hp
  have HMF := Lib.hid (MF_none hF)
  clear h hp hF
  go_enter Try.func22, Try.ntmps22
  go_wp2_with (at_lookup; refine wpList_mp_none rfl (.tmp 16) (.tmp 17) 53 rfl 3 50 Try.underlying3 Try.underlying53 (zeroF' _) bf _ c rfl HP.out x rfl hw HMF.out ?_)
  go_ret2
  exact ⟨rfl, (Below.refl _ _).alloc (Nat.le_refl _) _⟩

set_option maxRecDepth 100000 in
set_option maxHeartbeats 3200000 in
theorem m_ask1 (w : World) (m bl bf K : Nat) (A : Int → Option Nat) (F : Int → Option Fn) (x : Int) (h : Md w m bl bf K A F) (hw : (KL x).wf = true) (o r b : Nat) (hF : F x = some (o, r, b)) :
    Calls Try.prog 22 #[.pointer (some ⟨m, 0, none⟩), .int .i64 x] w fun e w' => e = .returned (.tuple #[.int .i64 ((askC A F x).1 : Int), .bool (askC A F x).2]) ∧ Below w.heap.size w w' := by
  have hask := ask_some (A := A) hF
  have hbd := h.ab.f0 _ _ _ _ hF
  have H := Lib.hid h
  have c1 := h.c1
  obtain ⟨c, hc, hpm⟩ := h.lf
  have HPM := Lib.hid hpm
  have HMF := Lib.hid (MF_is hF)
  have hwo : (KL (o : Int)).wf = true := wf_small (by omega)
  have hlim : (A (o : Int)).getD 0 ≤ 1000 := by
    cases q : A (o : Int) with
    | none => simp
    | some n => exact (h.ab.a0 _ _ q).2.2
  have hp1 := h.ab.sR (o : Int)
  obtain ⟨lim, hlm⟩ : ∃ n, (A (o : Int)).getD 0 = n := ⟨_, rfl⟩
  obtain ⟨p, hp⟩ : ∃ p, sR F (o : Int) = p := ⟨_, rfl⟩
  obtain ⟨q, hq⟩ : ∃ q, sB F (o : Int) = q := ⟨_, rfl⟩
  obtain ⟨u, hu⟩ : ∃ u, sO F (o : Int) = u := ⟨_, rfl⟩
  rw [hlm] at hlim
  rw [hp] at hp1
  rw [hlm, hp, hq, hu] at hask
  have hpI : (p : Int) ≤ 64000 := by omega
  have hlI : (lim : Int) ≤ 1000 := by omega
  have hoI : (o : Int) < 16 := by omega
  have hrI : (r : Int) ≤ 1000 := by omega
  have hbI : (b : Int) ≤ 1000 := by omega
  obtain ⟨an, han⟩ : ∃ an, askC A F x = an := ⟨_, rfl⟩
  rw [han] at hask
  rw [han]
  have HAN := Lib.hid hask
  have HLM := Lib.hid hlm
  have HP := Lib.hid hp
  have HQ := Lib.hid hq
  have HU := Lib.hid hu
  clear h hpm hF hbd hp hq hu hlm hp1 hlim hask han
  go_enter Try.func22, Try.ntmps22
  go_upto_region 2 with (at_lookup; refine wpList_mp_some rfl (.tmp 16) (.tmp 17) 53 rfl 3 50 Try.underlying3 Try.underlying53 (zeroF' _) bf _ c rfl HPM.out x rfl hw (.agg #[.int .i64 (o : Int), .int .i64 (r : Int), .int .i64 (b : Int)]) HMF.out ?_)
  have hb3 : Below w.heap.size w (w.alloc (.cells #[.int .i64 (o : Int), .int .i64 (r : Int), .int .i64 (b : Int)] 50)) := (Below.refl _ _).alloc (Nat.le_refl _) _
  have H3 := Lib.hid (H.out.below hb3)
  have HQ3 := Lib.hid (heap_alloc_new w (.cells #[.int .i64 (o : Int), .int .i64 (r : Int), .int .i64 (b : Int)] 50))
  obtain ⟨g, hg⟩ : ∃ g, w.heap.size = g := ⟨_, rfl⟩
  rw [hg] at HQ3
  rw [hg]
  clear hg c1 HPM HMF
  generalize w.alloc (.cells #[.int .i64 (o : Int), .int .i64 (r : Int), .int .i64 (b : Int)] 50) = w3 at hb3 H3 HQ3 ⊢
  have y0 := cell_of_row _ _ 0 _ _ _ HQ3.out
  go_wp2_with fail
  refine (m_sum w3 m bl bf K A F (o : Int) H3.out).mono ?_
  rintro e w4 ⟨rfl, b4⟩
  rw [HP.out, HQ.out, HU.out]
  have H4 := Lib.hid (H3.out.below b4)
  have HQ4 := Lib.hid ((Only.of_below (S := fun _ => False) b4).blk (fun q => q) HQ3.out)
  have bb4 := hb3.trans (b4.mono hb3.size)
  clear y0 H3 HQ3 hb3 b4
  have y0 : w4.cell? ⟨g, 0, none⟩ = some (.int .i64 (o : Int)) := cell_of_row _ _ 0 _ _ _ HQ4.out
  have y1 : w4.cell? ⟨g, 1, none⟩ = some (.int .i64 (r : Int)) := cell_of_row _ _ 1 _ _ _ HQ4.out
  have y2 : w4.cell? ⟨g, 2, none⟩ = some (.int .i64 (b : Int)) := cell_of_row _ _ 2 _ _ _ HQ4.out
  have c0 := H4.out.c0
  have hrun : ∀ n, (Instr.lookup 52 (.map (some bl)) (.int .i64 (o : Int)) false).run Try.prog (w4.drewN n) = .ok (.int .i64 (lim : Int)) (w4.drewN n) := fun n => by
    rw [(H4.out.drewN n).runA hwo, HLM.out]
  have hrun1 : (Instr.lookup 52 (.map (some bl)) (.int .i64 (o : Int)) false).run Try.prog w4.drew = .ok (.int .i64 (lim : Int)) w4.drew := hrun 1
  go_upto_region 5 with (fail)
  go_quiet (fail)
  clear hrun hrun1 y0 c0
  by_cases h1 : 0 < r ∧ r ≤ b
  · have hr1 : decide ((0 : Int) < (r : Int)) = true := decide_eq_true (by omega)
    have hr2 := h1.1
    have hr3 := h1.2
    go_wp2_with fail
    go_ret2
    refine ⟨?_, below_drewN bb4 _⟩
    have hA := HAN.out
    rw [if_pos h1] at hA
    rw [hA]; rfl
  · rcases (show r = 0 ∨ (0 < r ∧ b < r) by omega) with rfl | ⟨hr0, hbr⟩
    · by_cases hc1 : lim ≤ q
      · go_wp2_with fail
        go_ret2
        refine ⟨?_, below_drewN bb4 _⟩
        have hA := HAN.out
        rw [if_neg h1, if_pos (Or.inl hc1)] at hA
        rw [hA]; rfl
      · by_cases hc2 : lim ≤ u + p
        · have hc3 : decide ((lim : Int) - (p : Int) ≤ (u : Int)) = true := decide_eq_true (by omega)
          go_wp2_with fail
          go_ret2
          refine ⟨?_, below_drewN bb4 _⟩
          have hA := HAN.out
          rw [if_neg h1, if_pos (Or.inr ⟨by trivial, hc2⟩)] at hA
          rw [hA]; rfl
        · have hc3 : decide ((lim : Int) - (p : Int) ≤ (u : Int)) = false := decide_eq_false (by omega)
          go_wp2_with fail
          go_ret2
          refine ⟨?_, below_drewN bb4 _⟩
          have hA := HAN.out
          rw [if_neg h1, if_neg (fun h => h.elim hc1 (fun h => hc2 h.2))] at hA
          rw [hA]; rfl
    · have hr1 : ((r : Int) == 0) = false := by simp; omega
      have hr2 : decide ((0 : Int) < (r : Int)) = true := decide_eq_true (by omega)
      have HR0 := Lib.hid (show ¬ r = 0 by omega)
      by_cases hc1 : lim ≤ q
      · go_wp2_with fail
        go_ret2
        refine ⟨?_, below_drewN bb4 _⟩
        have hA := HAN.out
        rw [if_neg h1, if_pos (Or.inl hc1)] at hA
        rw [hA]; rfl
      · go_wp2_with fail
        go_ret2
        refine ⟨?_, below_drewN bb4 _⟩
        have hA := HAN.out
        rw [if_neg h1, if_neg (fun h => h.elim hc1 (fun h => HR0.out h.1))] at hA
        rw [hA]; rfl

theorem m_ask (w : World) (m bl bf K : Nat) (A : Int → Option Nat) (F : Int → Option Fn) (x : Int) (h : Md w m bl bf K A F) (hw : (KL x).wf = true) :
    Calls Try.prog 22 #[.pointer (some ⟨m, 0, none⟩), .int .i64 x] w fun e w' => e = .returned (.tuple #[.int .i64 ((askC A F x).1 : Int), .bool (askC A F x).2]) ∧ Below w.heap.size w w' := by
  cases hF : F x with
  | none => exact m_ask0 w m bl bf K A F x h hw hF
  | some v => obtain ⟨o, r, b⟩ := v; exact m_ask1 w m bl bf K A F x h hw o r b hF

end Go.Proofs.Ytancebpkiioaiaa.W
