/- A heap in memory: the free place goes up, and down, and an item comes to it. -/
import Derived.Test.YtkldoeillkfpbaaHpTB
namespace Go.Proofs.Ytkldoeillkfpbaa.W.HT
open Go.RowKit

def dom (g b : Nat) (S : Nat → Prop) : Nat → Prop := fun j => j = g ∨ j = b ∨ S j
theorem two_pow_step {a x y : Nat} (h : 2 ^ a * (x + 1) ≤ y) (hx : 0 < x) : 2 ^ (a + 1) * (par x + 1) ≤ y := by
  have h1 : 2 * (par x + 1) ≤ x + 1 := by unfold par; omega
  have h2 := Nat.mul_le_mul_left (2 ^ a) h1
  rw [Nat.pow_succ, Nat.mul_assoc]; omega
theorem two_pow_le {a x y : Nat} (h : 2 ^ a * (x + 1) ≤ y) : 2 ^ a ≤ y := Nat.le_trans (Nat.le_mul_of_pos_right _ (by omega)) h
theorem two_pow_mul {a x y : Nat} (h : 2 ^ a ≤ y) (hx : 2 * (y + 1) ≤ x + 1) : 2 ^ (a + 1) ≤ x := by rw [Nat.pow_succ]; omega

set_option maxRecDepth 100000 in
set_option maxHeartbeats 1600000 in
theorem rise_any {r : Nat} {Fv : Value} {S : Nat → Prop} {C : Nat → World → Prop} (L : Less r Fv S C) (g cap b n : Nat) (T : Nat → K × V) (M : K → Option Nat) (c : Nat) (i : Nat) (k0 : K) (A : K → Option V) (v : V) (w : World)
    (h : St w r Fv g cap b n T M c) (ho : Hole lt ok n T i) (hp : Pl n T i k0 M A) (hv : ok v) (hn : n < 1073741824) (hc : c < maxLen) (m : Nat) (hm : m < 2305843009213693952) (hC : C m w) (hS : ∀ j, S j → j ≠ r ∧ j ≠ g ∧ j ≠ b) (hSw : ∀ j, S j → j < w.heap.size) :
    Calls Try.prog 52 #[.pointer (some ⟨r, 0, none⟩), .int .i64 (i : Int), (.agg #[.int .i64 v.1, .int .i64 v.2.1, .int .i64 v.2.2])] w fun e w' => ∃ (T' : Nat → K × V) (M' : K → Option Nat) (i' a : Nat), e = .returned (.int .i64 (i' : Int)) ∧ St w' r Fv g cap b n T' M' c ∧ Hole lt ok n T' i' ∧ Pl n T' i' k0 M' A ∧ M' k0 = M k0 ∧
      (0 < i' → lt v (T' (par i')).2 = false) ∧ a ≤ 30 ∧ C (m + a) w' ∧ Only w w' (dom g b S) := by
  have hSr : ¬ S r := fun q => (hS r q).1 rfl
  have hSg : ¬ S g := fun q => (hS g q).2.1 rfl
  have hSb : ¬ S b := fun q => (hS b q).2.2 rfl
  have hin := ho.lt_n
  have hnH : ¬ dom g b S w.heap.size := by
    have hg1 := h.row.lt
    have hb1 := h.mp.lt
    rintro (q | q | q)
    · omega
    · omega
    · have := hSw _ q; omega
  go_enter Try.func52, Try.ntmps52
  go_wp2
  go_loopg [1] i (fun gk vi wr => ∃ (T' : Nat → K × V) (M' : K → Option Nat) (a : Nat), vi = .int .i64 (gk : Int) ∧ St wr r Fv g cap b n T' M' c ∧ Hole lt ok n T' gk ∧ Pl n T' gk k0 M' A ∧ Hid (M' k0 = M k0) ∧ C (m + a) wr ∧ Hid (2 ^ a * (gk + 1) ≤ i + 1) ∧ Only w wr (dom g b S) ∧ Hid (wr.heap[w.heap.size]? = some (.cells #[.int .i64 v.1, .int .i64 v.2.1, .int .i64 v.2.2] 77)))
  case atStart => exact ⟨T, M, 0, rfl, h.kept (Only.alloc (Only.refl w (fun _ => False)) _) (fun q => q) (fun q => q) (fun q => q), ho, hp, Lib.hid rfl, L.keep w _ m (fun _ => False) hC (Only.alloc (Only.refl w (fun _ => False)) _) (fun _ _ q => q), Lib.hid (by omega), (Only.refl w _).alloc _, Lib.hid (heap_alloc_new w _)⟩
  case round =>
    obtain ⟨T', M', a, rfl, h', ho', hp', HM, hC', HA, hO, HB⟩ := hrel
    have hgn := ho'.lt_n
    rcases Nat.eq_zero_or_pos gk with hz | hz
    · subst hz
      go_wp2_with fail
      go_ret
      exact ⟨T', M', 0, a, rfl, h', ho', hp', HM.out, fun q => absurd q (by omega), by have := pow_le30 (two_pow_le HA.out) (by omega); omega, hC', hO⟩
    · obtain ⟨u, hu⟩ : ∃ u, u = par gk := ⟨_, rfl⟩
      have hug : u < gk := by rw [hu]; exact par_lt hz
      have hun : u < n := by omega
      have hzi : (0 : Int) < (gk : Int) := by omega
      have hq : Int.tdiv ((gk : Int) - 1) 2 = (u : Int) := by rw [hu, Int.tdiv_eq_ediv_of_nonneg (by omega)]; unfold par; omega
      have huni : (u : Int) < (n : Int) := by omega
      have hgi : (gk : Int) < 1073741824 := by omega
      have hoku := ho'.okV u hun (by omega)
      obtain ⟨⟨ku, vu⟩, hTu⟩ : ∃ x, T' u = x := ⟨_, rfl⟩
      rw [hTu] at hoku
      have c1 := h'.c1
      have x1 : wr.cell? ⟨g, u * 5 + 2, none⟩ = some (.int .i64 vu.1) := h'.row.cell (c := 2) hun (by rw [hTu]; rfl) rfl
      have x2 : wr.cell? ⟨g, u * 5 + 3, none⟩ = some (.int .i64 vu.2.1) := h'.row.cell (c := 3) hun (by rw [hTu]; rfl) rfl
      have x3 : wr.cell? ⟨g, u * 5 + 4, none⟩ = some (.int .i64 vu.2.2) := h'.row.cell (c := 4) hun (by rw [hTu]; rfl) rfl
      have hkey := h'.keys u hun
      rw [hTu] at hkey
      have ha30 : a < 30 := pow_le30 (two_pow_le HA.out) (by omega)
      have hcall := L.call wr.drew (m + a) v vu h'.c0 (L.keep wr wr.drew (m + a) (fun _ => False) hC' ((Only.refl wr _).drewN 1) (fun _ _ q => q)) (by omega) hv hoku
      have z0 := cell_of_row _ _ 0 _ _ _ HB.out
      have z1 := cell_of_row _ _ 1 _ _ _ HB.out
      have z2 := cell_of_row _ _ 2 _ _ _ HB.out
      have HU := Lib.hid hu
      have HTU := Lib.hid hTu
      have ha1 : a + 1 < 30 := pow_le30 (two_pow_le (two_pow_step HA.out hz)) (by omega)
      clear hu hTu
      cases hlt : lt v vu with
      | false =>
        rw [hlt] at hcall
        have HLT := Lib.hid hlt
        clear hlt
        go_wp2_with fail
        go_still_tail 10, (by kernel_rfl)
        change wpList _ _ _ _ _ wr.drew
        have hwd : Only wr wr.drew S := (Only.refl wr _).drewN 1
        clear z0 z1 z2
        generalize wr.drew = wd at hcall hwd ⊢
        go_wp2_with fail
        refine hcall.mono ?_
        rintro e w1 ⟨rfl, hC1, ho1⟩
        have ho1 := hwd.tr ho1
        have HB1 := ho1.blk (fun q => hnH (Or.inr (Or.inr q))) HB.out
        clear hcall
        have h1 := h'.kept ho1 hSr hSg hSb
        clear c1 x1
        clear x2 x3
        go_wp2_with fail
        go_ret
        refine ⟨T', M', gk, a + 1, rfl, h1, ho', hp', HM.out, fun _ => ?_, by omega, hC1, hO.trans ho1 (fun j q => Or.inl (Or.inr (Or.inr q)))⟩
        rw [← HU.out, HTU.out]; exact HLT.out
      | true =>
        rw [hlt] at hcall
        have HLT := Lib.hid hlt
        clear hlt
        go_wp2_with fail
        go_still_tail 10, (by kernel_rfl)
        change wpList _ _ _ _ _ wr.drew
        have hwd : Only wr wr.drew S := (Only.refl wr _).drewN 1
        clear z0 z1 z2
        generalize wr.drew = wd at hcall hwd ⊢
        go_wp2_with fail
        refine hcall.mono ?_
        rintro e w1 ⟨rfl, hC1, ho1⟩
        have ho1 := hwd.tr ho1
        have HB1 := ho1.blk (fun q => hnH (Or.inr (Or.inr q))) HB.out
        clear hcall
        have h1 := h'.kept ho1 hSr hSg hSb
        have hO1 := hO.trans ho1 (fun j q => Or.inl (Or.inr (Or.inr q)))
        clear c1 x1
        clear x2 x3
        have c1 := h1.c1
        have x0 : w1.cell? ⟨g, u * 5, none⟩ = some (.int .i64 ku.1) := h1.row.cell (c := 0) hun (by rw [HTU.out]; rfl) rfl
        have xk : w1.cell? ⟨g, u * 5 + 1, none⟩ = some (.int .i64 ku.2) := h1.row.cell (c := 1) hun (by rw [HTU.out]; rfl) rfl
        have x1 : w1.cell? ⟨g, u * 5 + 2, none⟩ = some (.int .i64 vu.1) := h1.row.cell (c := 2) hun (by rw [HTU.out]; rfl) rfl
        have x2 : w1.cell? ⟨g, u * 5 + 3, none⟩ = some (.int .i64 vu.2.1) := h1.row.cell (c := 3) hun (by rw [HTU.out]; rfl) rfl
        have x3 : w1.cell? ⟨g, u * 5 + 4, none⟩ = some (.int .i64 vu.2.2) := h1.row.cell (c := 4) hun (by rw [HTU.out]; rfl) rfl
        have hMk : M' ku = some u := (hp'.at_ ku (by have := hp'.nk u hun (by omega); rw [HTU.out] at this; exact this) u).2 ⟨hun, by omega, by rw [HTU.out]⟩
        have hku : ku ≠ k0 := by have := hp'.nk u hun (by omega); rw [HTU.out] at this; exact this
        have hput := put_any r Fv g cap b n T' M' c gk ku vu w1 h1 hgn hkey hc c (by rw [hMk]; rfl)
        have HMK := Lib.hid hMk
        clear hMk
        go_wp2_with fail
        refine hput.mono ?_
        rintro e w2 ⟨rfl, h2, ho2⟩
        clear hput c1 x0 xk x1
        clear x2 x3
        have hC2 := L.keep w1 w2 _ _ hC1 ho2 (fun j q q' => by rcases q' with q' | q'; exact (hS j q).2.1 q'; exact (hS j q).2.2 q')
        have HB2 := ho2.blk (fun q => hnH (q.elim Or.inl (fun q => Or.inr (Or.inl q)))) HB1
        have hO2 := hO1.trans ho2 (fun j q => Or.inl (q.elim (fun q => Or.inl q) (fun q => Or.inr (Or.inl q))))
        have hH2 := ho'.up odr hz
        have hP2 := hp'.move hgn hun (by omega)
        rw [← HU.out] at hH2
        rw [HTU.out] at hH2 hP2
        go_wp2_with fail
        go_roundg u
        case measure => exact hug
        case rel =>
          refine ⟨_, _, a + 1, by go_num, h2, hH2, hP2, Lib.hid ?_, hC2, Lib.hid ?_, hO2, Lib.hid HB2⟩
          · rw [updZ_ne _ _ (fun q => hku q.symm)]; exact HM.out
          · rw [HU.out]; exact two_pow_step HA.out hz
end Go.Proofs.Ytkldoeillkfpbaa.W.HT
