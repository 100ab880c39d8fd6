/- The page's model of package quota: SetAccount, SetFunc, Ask, Turn. -/
import Derived.Test.YtancebpkiioaiaaQuoN
import Derived.Deep.RegionHeld3
namespace Go.Proofs.Ytancebpkiioaiaa.W
open Go.RowKit Go.Maps Go.ChangeMaps Go.MapKept

theorem Md.setA {w w' : World} {m bl bf K : Nat} {A : Int → Option Nat} {F : Int → Option Fn} (h : Md w m bl bf K A F) {x n : Nat} (hx : x < 16) (hn : n ≤ 1000) (hg : w.grownBy w' (some bl)) {c : Nat} (hc : c ≤ K + 1) (hm : Mp Try.prog 3 w' bl (updZ (MA A) (x : Int) (some (.int .i64 (n : Int)))) c) : Md w' m bl bf (K + 1) (updZ A (x : Int) (some n)) F := by
  have hO : Only w w' (fun j => j = bl) := Only.grown hg (Or.inl rfl)
  obtain ⟨c2, k2, p2⟩ := h.lf
  exact ⟨h.ab.account hx hn, hO.blk (fun q => h.n1 q) h.row, ⟨c, hc, by rw [MA_set]; exact hm⟩, ⟨c2, by omega, p2.kept hO (fun q => h.n3 q.symm)⟩, h.n1, h.n2, h.n3⟩
theorem Md.setF {w w' : World} {m bl bf K : Nat} {A : Int → Option Nat} {F : Int → Option Fn} (h : Md w m bl bf K A F) {f o r b : Nat} (hf : f < 64) (ho : o < 16) (hr : r ≤ 1000) (hb : b ≤ 1000) (hg : w.grownBy w' (some bf)) {c : Nat} (hc : c ≤ K + 1) (hm : Mp Try.prog 3 w' bf (updZ (MF F) (f : Int) (some (FnV (o, r, b)))) c) : Md w' m bl bf (K + 1) (A) (updZ F (f : Int) (some (o, r, b))) := by
  have hO : Only w w' (fun j => j = bf) := Only.grown hg (Or.inl rfl)
  obtain ⟨c1, k1, p1⟩ := h.la
  exact ⟨h.ab.func hf ho hr hb, hO.blk (fun q => h.n2 q) h.row, ⟨c1, by omega, p1.kept hO (fun q => h.n3 q)⟩, ⟨c, hc, by rw [MF_set]; exact hm⟩, h.n1, h.n2, h.n3⟩
theorem wf_small {x : Int} (h : 0 ≤ x ∧ x < 1000000) : (KL x).wf = true := Go.WalkArith.wf_i64 ⟨by omega, by omega⟩
theorem keys_small : (100000 : Nat) < maxLen := by decide

set_option maxRecDepth 100000 in
set_option maxHeartbeats 3200000 in
theorem m_setA (w : World) (m bl bf K : Nat) (A : Int → Option Nat) (F : Int → Option Fn) (x n : Int) (h : Md w m bl bf K A F) (hK : K < 100000) :
    Calls Try.prog 24 #[.pointer (some ⟨m, 0, none⟩), .int .i64 x, .int .i64 n] w fun e w' => e = .returned (.int .i64 (accC F x n : Int)) ∧ Md w' m bl bf (K + 1) (accA A F x n) F ∧ w.grownBy w' (some bl) := by
  have H := Lib.hid h
  clear h
  cases hg : isA x && isC n with
  | false =>
    have e1 : accC F x n = 1 := by unfold accC; rw [hg]; rfl
    have e2 : accA A F x n = A := by unfold accA; rw [e1]; rfl
    by_cases h1 : x < 0
    · have d1 : decide (x < 0) = true := decide_eq_true h1
      clear hg
      rw [e1, e2]
      clear e1 e2
      go_enter Try.func24, Try.ntmps24
      go_wp2
      go_ret
      exact ⟨rfl, H.out.more (by omega), World.grownBy.refl _ _⟩
    · have d1 : decide (x < 0) = false := decide_eq_false h1
      by_cases h2 : 15 < x
      · have d2 : decide (15 < x) = true := decide_eq_true h2
        clear hg h1
        rw [e1, e2]
        clear e1 e2
        go_enter Try.func24, Try.ntmps24
        go_wp2
        go_ret
        exact ⟨rfl, H.out.more (by omega), World.grownBy.refl _ _⟩
      · have d2 : decide (15 < x) = false := decide_eq_false h2
        rw [isA_iff.2 (by omega)] at hg
        by_cases h3 : n < 0
        · have d3 : decide (n < 0) = true := decide_eq_true h3
          clear hg h1 h2
          rw [e1, e2]
          clear e1 e2
          go_enter Try.func24, Try.ntmps24
          go_wp2
          go_ret
          exact ⟨rfl, H.out.more (by omega), World.grownBy.refl _ _⟩
        · have d3 : decide (n < 0) = false := decide_eq_false h3
          have d4 : decide (1000 < n) = true := decide_eq_true (by
            rcases Int.lt_or_le 1000 n with q | q
            · exact q
            · rw [isC_iff.2 (by omega)] at hg; cases hg)
          clear hg h1 h2 h3
          rw [e1, e2]
          clear e1 e2
          go_enter Try.func24, Try.ntmps24
          go_wp2
          go_ret
          exact ⟨rfl, H.out.more (by omega), World.grownBy.refl _ _⟩
  | true =>
    have hg' := hg
    simp only [Bool.and_eq_true] at hg'
    obtain ⟨hx, hn⟩ := hg'
    obtain ⟨a, rfl, ha⟩ := isA_nat hx
    obtain ⟨k, rfl, hk⟩ := isC_nat hn
    have d1 : decide ((a : Int) < 0) = false := decide_eq_false (by omega)
    have d2 : decide ((15 : Int) < (a : Int)) = false := decide_eq_false (by omega)
    have d3 : decide ((k : Int) < 0) = false := decide_eq_false (by omega)
    have d4 : decide ((1000 : Int) < (k : Int)) = false := decide_eq_false (by omega)
    have hwa : (KL (a : Int)).wf = true := wf_small (by omega)
    obtain ⟨p, hp⟩ : ∃ p, sR F (a : Int) = p := ⟨_, rfl⟩
    have HP := Lib.hid hp
    by_cases hpm : k < p
    · have e1 : accC F (a : Int) (k : Int) = 4 := by unfold accC; rw [hg, hp]; simp [hpm]
      have e2 : accA A F (a : Int) (k : Int) = A := by unfold accA; rw [e1]; rfl
      rw [e1, e2]
      clear hg hx hn e1 e2 hp
      go_enter Try.func24, Try.ntmps24
      go_wp2_with fail
      refine (m_sum w m bl bf K A F (a : Int) H.out).mono ?_
      rintro e w1 ⟨rfl, b1⟩
      rw [HP.out]
      go_wp2
      go_ret
      exact ⟨rfl, (H.out.below b1).more (by omega), below_grown b1 _⟩
    · have e1 : accC F (a : Int) (k : Int) = 0 := by unfold accC; rw [hg, hp]; simp [hpm]
      have e2 : accA A F (a : Int) (k : Int) = updZ A (a : Int) (some k) := accA_yes e1
      rw [e1, e2]
      clear hg hx hn e1 e2 hp
      go_enter Try.func24, Try.ntmps24
      go_wp2_with fail
      refine (m_sum w m bl bf K A F (a : Int) H.out).mono ?_
      rintro e w1 ⟨rfl, b1⟩
      rw [HP.out]
      have H1 := Lib.hid (H.out.below b1)
      have c0 := H1.out.c0
      obtain ⟨c, hc, hp1⟩ := H1.out.la
      obtain ⟨c', hc'⟩ : ∃ c', c' = if (MA A (a : Int)).isSome then c else c + 1 := ⟨_, rfl⟩
      have hc1 : c' ≤ K + 1 := by rw [hc']; split <;> omega
      have hml : c < maxLen := by have := keys_small; omega
      have HC := Lib.hid hc'
      have HMP := Lib.hid hp1
      have HC1 := Lib.hid hc1
      clear hc' hp1 hc1
      go_wp2_with (at_mapUpdate; refine wpList_mp_set rfl (.tmp 37) (.tmp 38) (.tmp 39) 52 rfl 3 3 Try.underlying3 Try.underlying52 bl _ c rfl HMP.out hml (a : Int) rfl hwa (.int .i64 (k : Int)) rfl c' HC.out ?_; intro w2 hm2 hg2)
      go_ret
      exact ⟨rfl, H1.out.setA ha hk hg2 HC1.out hm2, grown_trans (below_grown b1 _) hg2⟩

set_option maxRecDepth 100000 in
set_option maxHeartbeats 3200000 in
theorem m_turn (w : World) (m bl bf K : Nat) (A : Int → Option Nat) (F : Int → Option Fn) (f o r b b' : Nat) (y : Int) (h : Md w m bl bf K A F) (hK : K < 100000) (hF : F (f : Int) = some (o, r, b)) (hb' : b' ≤ 1000) (hy : (b : Int) + y = (b' : Int)) :
    Calls Try.prog 28 #[.pointer (some ⟨m, 0, none⟩), .int .i64 (f : Int), .int .i64 y] w fun e w' => e = .returned (.tuple #[]) ∧ Md w' m bl bf (K + 1) A (updZ F (f : Int) (some (o, r, b'))) ∧ w.grownBy w' (some bf) := by
  have H := Lib.hid h
  have hbd := h.ab.f0 _ _ _ _ hF
  have hwf : (KL (f : Int)).wf = true := wf_small (by omega)
  have hrun := h.runF hwf
  rw [hF] at hrun
  have hrun' : (Instr.lookup 53 (.map (some bf)) (.int .i64 (f : Int)) false).run Try.prog w = .ok (.agg #[.int .i64 (o : Int), .int .i64 (r : Int), .int .i64 (b : Int)]) w := hrun
  have c1 := h.c1
  have hbI : (b : Int) ≤ 1000 := by omega
  have hbI' : (b' : Int) ≤ 1000 := by omega
  have hlt := h.lt
  have HBD := Lib.hid hbd
  clear h hrun hF hbd
  go_enter Try.func28, Try.ntmps28
  go_upto_region 1 with (fail)
  have hb3 : Below w.heap.size w (w.alloc (.cells [Value.int .i64 (o : Int), .int .i64 (r : Int), .int .i64 (b : Int)].toArray 50)) := (Below.refl _ _).alloc (Nat.le_refl _) _
  have H3 := Lib.hid (H.out.below hb3)
  have HQ3 := Lib.hid (heap_alloc_new w (.cells [Value.int .i64 (o : Int), .int .i64 (r : Int), .int .i64 (b : Int)].toArray 50))
  obtain ⟨g, hg⟩ : ∃ g, w.heap.size = g := ⟨_, rfl⟩
  have hgw : w.heap.size ≤ g := Nat.le_of_eq hg
  rw [hg] at HQ3 hlt
  rw [hg]
  clear hg c1 hrun'
  generalize w.alloc (.cells [Value.int .i64 (o : Int), .int .i64 (r : Int), .int .i64 (b : Int)].toArray 50) = w3 at hb3 H3 HQ3 ⊢
  have y2 := cellL HQ3.out 2 _ rfl
  go_wp2_with (with_reducible refine wpList_store_in rfl 3 (.tmp 17) (.tmp 16) rfl (by kernel_rfl) g 2 rfl .i64 (b' : Int) rfl _ _ HQ3.out (len3_2 _ _ _) ?_; intro w4 HG4 hg4)
  have b4 := below_row hb3 hgw hg4 hb3.size
  have H4 := Lib.hid (H3.out.off hg4 (by omega) (by omega) (by omega))
  clear y2 hg4 H3 HQ3 hb3
  have z0 := cellL HG4.out 0 _ rfl
  have z1 := cellL HG4.out 1 _ rfl
  have z2 := cellL HG4.out 2 _ rfl
  have c1 := H4.out.c1
  obtain ⟨c, hc, hp1⟩ := H4.out.lf
  obtain ⟨c', hc'⟩ : ∃ c', c' = if (MF F (f : Int)).isSome then c else c + 1 := ⟨_, rfl⟩
  have hc1 : c' ≤ K + 1 := by rw [hc']; split <;> omega
  have hml : c < maxLen := by have := keys_small; omega
  have HC := Lib.hid hc'
  have HMP := Lib.hid hp1
  have HC1 := Lib.hid hc1
  clear hc' hp1 hc1
  go_still_tail 6, (by kernel_rfl)
  change wpList _ _ _ _ _ w4.drew
  have hd := grown_drew (World.grownBy.refl w4 (some bf))
  have H5 : Hid (Md w4.drew m bl bf K A F) := Lib.hid (H4.out.drewN 1)
  have HM5 : Hid (Mp Try.prog 3 w4.drew bf (MF F) c) := Lib.hid (HMP.out.drewN 1)
  generalize w4.drew = w5 at hd H5 HM5 ⊢
  refine wpList_mp_set rfl (.tmp 21) (.tmp 22) (.tmp 23) 53 rfl 3 50 Try.underlying3 Try.underlying53 bf _ c rfl HM5.out hml (f : Int) rfl hwf (FnV (o, r, b')) rfl c' HC.out ?_
  intro w6 hm6 hg6
  clear z0 z1 z2 c1
  go_wp2
  go_end0
  exact ⟨rfl, H5.out.setF (by have := HBD.out; omega) (by have := HBD.out; omega) (by have := HBD.out; omega) hb' hg6 HC1.out hm6, grown_trans (grown_trans (below_grown b4 _) hd) hg6⟩


end Go.Proofs.Ytancebpkiioaiaa.W
