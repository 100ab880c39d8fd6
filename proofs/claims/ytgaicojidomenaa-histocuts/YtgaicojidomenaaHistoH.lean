/- The law HistoCuts: its walk. -/
import Derived.Test.YtgaicojidomenaaHistoG
namespace Go.Proofs.Ytgaicojidomenaa.W
open Go.RowKit

/-- The least bin that has some, and the last one. -/
def Bnd (F : Nat → Nat) (L M : Int) : Prop :=
  ((∀ j, j < 240 → F j = 0) ∧ L = 240 ∧ M = -1) ∨ ∃ l m : Nat, L = (l : Int) ∧ M = (m : Int) ∧ l < 240 ∧ m < 240 ∧ 0 < F l ∧ 0 < F m ∧ ∀ j, j < 240 → 0 < F j → l ≤ j ∧ j ≤ m
theorem bnd_out {F : Nat → Nat} {L M x : Int} (h : Bnd F L M) (hx : ¬ (0 ≤ x ∧ x < 240)) : Bnd (aF F x) L M := by
  have e : ∀ j, j < 240 → aF F x j = F j := by intro j hj; unfold aF; rw [if_neg (by omega), Nat.add_zero]
  rcases h with ⟨h1, h2, h3⟩ | ⟨l, m, h1, h2, h3, h4, h5, h6, h7⟩
  · exact Or.inl ⟨fun j hj => by rw [e j hj]; exact h1 j hj, h2, h3⟩
  · exact Or.inr ⟨l, m, h1, h2, h3, h4, by rw [e l h3]; exact h5, by rw [e m h4]; exact h6, fun j hj hp => h7 j hj (by rw [e j hj] at hp; exact hp)⟩
theorem bnd_in {F : Nat → Nat} {L M x : Int} (h : Bnd F L M) (h0 : 0 ≤ x) (h1 : x < 240) : Bnd (aF F x) (min L x) (max M x) := by
  obtain ⟨n, rfl⟩ := Int.eq_ofNat_of_zero_le h0
  have en : aF F (n : Int) n = F n + 1 := by unfold aF; rw [if_pos rfl]
  have eo : ∀ j, j ≠ n → aF F (n : Int) j = F j := by intro j hj; unfold aF; rw [if_neg (by omega), Nat.add_zero]
  have ge : ∀ j, F j ≤ aF F (n : Int) j := by intro j; unfold aF; omega
  refine Or.inr ?_
  rcases h with ⟨g1, g2, g3⟩ | ⟨l, m, g1, g2, g3, g4, g5, g6, g7⟩
  · refine ⟨n, n, by omega, by omega, by omega, by omega, by omega, by omega, ?_⟩
    intro j hj hp
    by_cases e : j = n
    · omega
    · rw [eo j e, g1 j hj] at hp; omega
  · refine ⟨min l n, max m n, by omega, by omega, by omega, by omega, ?_, ?_, ?_⟩
    · rcases Nat.le_total l n with q | q
      · rw [Nat.min_eq_left q]; have := ge l; omega
      · rw [Nat.min_eq_right q]; omega
    · rcases Nat.le_total m n with q | q
      · rw [Nat.max_eq_right q]; omega
      · rw [Nat.max_eq_left q]; have := ge m; omega
    · intro j hj hp
      by_cases e : j = n
      · omega
      · rw [eo j e] at hp; have := g7 j hj hp; omega
theorem sumTo_none {F : Nat → Nat} : ∀ {n : Nat}, (∀ j, j < n → F j = 0) → sumTo F n = 0
  | 0, _ => rfl
  | n + 1, h => by simp only [sumTo]; rw [sumTo_none (fun j hj => h j (by omega)), h n (by omega)]
theorem sumTo_tail {F : Nat → Nat} {m : Nat} : ∀ n, m ≤ n → (∀ j, m ≤ j → j < n → F j = 0) → sumTo F n = sumTo F m
  | 0, h, _ => by obtain rfl : m = 0 := by omega
                  rfl
  | n + 1, h, hz => by
    rcases Nat.lt_or_ge n m with q | q
    · obtain rfl : m = n + 1 := by omega
      rfl
    · simp only [sumTo]; rw [sumTo_tail n q (fun j h1 h2 => hz j h1 (by omega)), hz n q (by omega)]; rfl
theorem bnd_zero {F : Nat → Nat} (h : ∀ j, j < 240 → F j = 0) (P : Nat) : tot F = 0 ∧ cutN F P = 0 ∧ spreadB F = false := by
  have e : tot F = 0 := sumTo_none h
  exact ⟨e, cutN_none (fun j hj => not_okC_zero e hj), by unfold spreadB; rw [e]; simp⟩
theorem bnd_some {F : Nat → Nat} {l m : Nat} (h3 : l < 240) (h4 : m < 240) (h5 : 0 < F l) (h6 : 0 < F m) (h7 : ∀ j, j < 240 → 0 < F j → l ≤ j ∧ j ≤ m) :
    0 < tot F ∧ cutN F 0 = l ∧ cutN F 100 = m := by
  have ht : 0 < tot F := Nat.lt_of_lt_of_le h5 (le_sumTo F h3)
  refine ⟨ht, cutN_is ⟨?_, by omega⟩ h3 ?_, cutN_is ⟨?_, ?_⟩ h4 ?_⟩
  · exact Nat.lt_of_lt_of_le h5 (le_sumTo F (by omega))
  · intro j hj hk
    have := hk.1
    rw [sumTo_none (fun i hi => by
      rcases Nat.eq_zero_or_pos (F i) with q | q
      · exact q
      · have := h7 i (by omega) q; omega)] at this
    omega
  · exact Nat.lt_of_lt_of_le h6 (le_sumTo F (by omega))
  · have : tot F = sumTo F (m + 1) := sumTo_tail 240 (by omega) (fun j h1 h2 => by
      rcases Nat.eq_zero_or_pos (F j) with q | q
      · exact q
      · have := h7 j h2 q; omega)
    rw [this]; omega
  · intro j hj hk
    have h1 := hk.2
    have h2 := sumTo_mono F (show j + 1 ≤ m by omega)
    have h8 : sumTo F (m + 1) ≤ tot F := sumTo_mono F (by omega)
    simp only [sumTo] at h8
    have h9 : 100 * tot F ≤ 100 * sumTo F (j + 1) := by omega
    omega
theorem cut_mono {F : Nat → Nat} {P Q : Nat} (ht : 0 < tot F) (h : P ≤ Q) (hQ : Q ≤ 100) : cutN F P ≤ cutN F Q := by
  obtain ⟨a1, a2, a3⟩ := cutN_ok (P := P) ht (by omega)
  obtain ⟨b1, b2, b3⟩ := cutN_ok (P := Q) ht hQ
  rcases Nat.lt_or_ge (cutN F Q) (cutN F P) with q | q
  · exact absurd ⟨b1.1, Nat.le_trans (Nat.mul_le_mul_right _ h) b1.2⟩ (a3 _ q)
  · exact q
theorem clamp_mono {p q : Int} (h : p ≤ q) : clampP p ≤ clampP q := by unfold clampP; omega
theorem clamp0 : clampP 0 = 0 := by decide
theorem clamp100 : clampP 100 = 100 := by decide

set_option maxRecDepth 100000 in
set_option maxHeartbeats 3200000 in
theorem cuts_walk (A : Option Addr) (k c : Nat) (xs : List Int) (p q : Int) (w : World) (hk : k = xs.length) (hA : Lies w w.heap.size A (ints xs)) (hm : k ≤ 9223372036854775807) :
    Calls Try.prog 5 #[.slice A k c, .int .i64 p, .int .i64 q] w fun e w' => e = .returned (.bool true) ∧ Below w.heap.size w w' := by
  have HK := Lib.hid hk
  clear hk
  by_cases h200 : 200 < k
  · go_enter Try.func5, Try.ntmps5
    go_wp2_with fail
    refine (histo_head _).mono ?_
    rintro e w1 ⟨rfl, hb1⟩
    go_wp2_with fail
    go_ret
    exact ⟨rfl, hb1⟩
  clear hm
  go_enter Try.func5, Try.ntmps5
  go_wp2_with fail
  refine (histo_head _).mono ?_
  rintro e w1 ⟨rfl, hb1⟩
  go_wp2_with fail
  refine (list_new _).mono ?_
  rintro e w2 ⟨rfl, hR2, hb2⟩
  obtain ⟨r, hr⟩ : ∃ r, w1.heap.size = r := ⟨_, rfl⟩
  have hb3 := hb1.trans (hb2.mono hb1.size)
  have hrw : w.heap.size ≤ r := by rw [← hr]; exact hb1.size
  rw [hr] at hR2 ⊢
  clear hb2 hb1 hr
  go_wp2_with fail
  go_loopg [8, 9, 28] k (fun gk vl vm vi wr => ∃ (i : Nat) (L M : Int), vi = .int .i64 (i : Int) ∧ vl = .int .i64 L ∧ vm = .int .i64 M ∧ i + gk = k ∧ Hl wr r (xs.take i) ∧ Bnd (cnt (xs.take i)) L M ∧ Below w.heap.size w wr)
  case atStart => exact ⟨0, 240, -1, rfl, rfl, rfl, by omega, hR2, Or.inl ⟨fun j _ => by simp [cnt], rfl, rfl⟩, hb3⟩
  case round =>
    obtain ⟨i, L, M, rfl, rfl, rfl, hik, hRz, hBd, hbz⟩ := hrel
    have HIK := Lib.hid hik
    clear hR2 hb3
    by_cases hi : i < k
    · obtain ⟨ad, x, rfl, hblk, hx, hcx⟩ := hA.int (show i < xs.length by rw [← HK.out]; exact hi)
      have hcx' : wr.cell? (ad.add i) = some (.int .i64 x) := by rw [hbz.cell (by rw [blk_add]; exact hblk)]; exact hcx
      have HX := Lib.hid hx
      clear hik hcx hx
      go_wp2_with fail
      refine (list_add r x _ _ hRz (by simp; omega)).mono ?_
      rintro e w4 ⟨rfl, hR4, hg4⟩
      rw [← take_snoc HX.out] at hR4
      have hb5 := below_row hbz hrw hg4 hbz.size
      clear hcx' hRz hbz hg4
      by_cases hin : 0 ≤ x ∧ x < 240
      · obtain ⟨hx0, hx1⟩ := hin
        have HB := Lib.hid (bnd_in hBd hx0 hx1)
        rw [← cnt_snoc, ← take_snoc HX.out] at HB
        obtain ⟨L', hL'⟩ : ∃ L', L' = min L x := ⟨_, rfl⟩
        obtain ⟨M', hM'⟩ : ∃ M', M' = max M x := ⟨_, rfl⟩
        rw [← hL', ← hM'] at HB
        have HL := Lib.hid hL'
        have HM := Lib.hid hM'
        clear hL' hM' hBd
        go_wp2_with (first
          | (with_reducible refine wpList_min_to rfl (.tmp 41) (.tmp 42) 2 2 rfl .i64 .i64 L x L' rfl rfl HL.out ?_)
          | (with_reducible refine wpList_max_to rfl (.tmp 44) (.tmp 45) 2 2 rfl .i64 .i64 M x M' rfl rfl HM.out ?_))
        go_roundg (gk - 1)
        case measure => have := HIK.out; omega
        case rel => exact ⟨i + 1, L', M', by go_num, rfl, rfl, by have := HIK.out; omega, hR4, HB.out, hb5⟩
      · have HB := Lib.hid (bnd_out hBd hin)
        rw [← cnt_snoc, ← take_snoc HX.out] at HB
        clear hBd
        by_cases hx0 : 0 ≤ x
        · have hx1 : decide (x < 240) = false := by simp; omega
          clear hin
          go_wp2_with fail
          go_roundg (gk - 1)
          case measure => have := HIK.out; omega
          case rel => exact ⟨i + 1, L, M, by go_num, rfl, rfl, by have := HIK.out; omega, hR4, HB.out, hb5⟩
        · have hx1 : decide (0 ≤ x) = false := by simp; omega
          clear hin
          go_wp2_with fail
          go_roundg (gk - 1)
          case measure => have := HIK.out; omega
          case rel => exact ⟨i + 1, L, M, by go_num, rfl, rfl, by have := HIK.out; omega, hR4, HB.out, hb5⟩
    · have hR : Hs wr r (cnt (xs.take i)) (cntO (xs.take i)) := hRz
      clear hik HIK hRz
      obtain ⟨F, hF⟩ : ∃ F, cnt (xs.take i) = F := ⟨_, rfl⟩
      obtain ⟨o, ho⟩ : ∃ o, cntO (xs.take i) = o := ⟨_, rfl⟩
      rw [hF] at hR hBd
      rw [ho] at hR
      clear hF ho
      rcases hBd with ⟨hz, rfl, rfl⟩ | ⟨l, m, rfl, rfl, h3, h4, h5, h6, h7⟩
      · have E0 := Lib.hid (bnd_zero hz)
        clear hz
        by_cases hpq : q < p
        · go_wp2_with fail
          refine (cut_any r _ _ q _ hR).mono ?_
          rintro e w5 ⟨rfl, rfl⟩
          rw [(E0.out (clampP q)).2.1, (E0.out 0).1, show decide (0 < 0) = false by simp]
          go_wp2_with fail
          refine (cut_any r _ _ p _ hR).mono ?_
          rintro e w5 ⟨rfl, rfl⟩
          rw [(E0.out (clampP p)).2.1, (E0.out 0).1, show decide (0 < 0) = false by simp]
          go_wp2_with fail
          refine (spread_any r _ _ _ hR).mono ?_
          rintro e w5 ⟨rfl, d1, rfl⟩
          rw [(E0.out 0).2.2]
          have hb4 := below_drewN hbz d1
          go_wp2_with fail
          go_ret
          exact ⟨rfl, hb4⟩
        · go_wp2_with fail
          refine (cut_any r _ _ p _ hR).mono ?_
          rintro e w5 ⟨rfl, rfl⟩
          rw [(E0.out (clampP p)).2.1, (E0.out 0).1, show decide (0 < 0) = false by simp]
          go_wp2_with fail
          refine (cut_any r _ _ q _ hR).mono ?_
          rintro e w5 ⟨rfl, rfl⟩
          rw [(E0.out (clampP q)).2.1, (E0.out 0).1, show decide (0 < 0) = false by simp]
          go_wp2_with fail
          refine (spread_any r _ _ _ hR).mono ?_
          rintro e w5 ⟨rfl, d1, rfl⟩
          rw [(E0.out 0).2.2]
          have hb4 := below_drewN hbz d1
          go_wp2_with fail
          go_ret
          exact ⟨rfl, hb4⟩
      · have E := Lib.hid (bnd_some h3 h4 h5 h6 h7)
        clear h5 h6 h7
        by_cases hpq : q < p
        · have hle : q ≤ p := by omega
          have E1 := Lib.hid (cut_mono E.out.1 (clamp_mono hle) (clampP_le p))
          have E2 := Lib.hid (cut_mono E.out.1 (Nat.zero_le (clampP q)) (clampP_le q))
          have E3 := Lib.hid (cut_mono E.out.1 (clampP_le p) (Nat.le_refl 100))
          obtain ⟨a, ha⟩ : ∃ a, cutN F (clampP q) = a := ⟨_, rfl⟩
          obtain ⟨b, hb⟩ : ∃ b, cutN F (clampP p) = b := ⟨_, rfl⟩
          rw [ha, hb] at E1
          rw [ha, E.out.2.1] at E2
          rw [hb, E.out.2.2] at E3
          have i1 : (a : Int) ≤ (b : Int) := by have := E1.out; omega
          have i2 : (l : Int) ≤ (a : Int) := by have := E2.out; omega
          have i3 : (b : Int) ≤ (m : Int) := by have := E3.out; omega
          have HA := Lib.hid ha
          have HB := Lib.hid hb
          clear ha hb hle
          go_wp2_with fail
          refine (cut_any r _ _ q _ hR).mono ?_
          rintro e w5 ⟨rfl, rfl⟩
          rw [HA.out, show decide (0 < tot F) = true by simpa using E.out.1]
          go_wp2_with fail
          refine (cut_any r _ _ p _ hR).mono ?_
          rintro e w5 ⟨rfl, rfl⟩
          rw [HB.out, show decide (0 < tot F) = true by simpa using E.out.1]
          go_wp2_with fail
          refine (cut_any r _ _ 0 _ hR).mono ?_
          rintro e w5 ⟨rfl, rfl⟩
          rw [clamp0, E.out.2.1, show decide (0 < tot F) = true by simpa using E.out.1]
          go_wp2_with fail
          refine (cut_any r _ _ 100 _ hR).mono ?_
          rintro e w5 ⟨rfl, rfl⟩
          rw [clamp100, E.out.2.2, show decide (0 < tot F) = true by simpa using E.out.1]
          go_wp2_with fail
          go_ret
          refine ⟨ret_bool ?_, hbz⟩
          first | rfl | (simp; done) | (simp; omega)
        · have hle : p ≤ q := by omega
          have E1 := Lib.hid (cut_mono E.out.1 (clamp_mono hle) (clampP_le q))
          have E2 := Lib.hid (cut_mono E.out.1 (Nat.zero_le (clampP p)) (clampP_le p))
          have E3 := Lib.hid (cut_mono E.out.1 (clampP_le q) (Nat.le_refl 100))
          obtain ⟨a, ha⟩ : ∃ a, cutN F (clampP p) = a := ⟨_, rfl⟩
          obtain ⟨b, hb⟩ : ∃ b, cutN F (clampP q) = b := ⟨_, rfl⟩
          rw [ha, hb] at E1
          rw [ha, E.out.2.1] at E2
          rw [hb, E.out.2.2] at E3
          have i1 : (a : Int) ≤ (b : Int) := by have := E1.out; omega
          have i2 : (l : Int) ≤ (a : Int) := by have := E2.out; omega
          have i3 : (b : Int) ≤ (m : Int) := by have := E3.out; omega
          have HA := Lib.hid ha
          have HB := Lib.hid hb
          clear ha hb hle
          go_wp2_with fail
          refine (cut_any r _ _ p _ hR).mono ?_
          rintro e w5 ⟨rfl, rfl⟩
          rw [HA.out, show decide (0 < tot F) = true by simpa using E.out.1]
          go_wp2_with fail
          refine (cut_any r _ _ q _ hR).mono ?_
          rintro e w5 ⟨rfl, rfl⟩
          rw [HB.out, show decide (0 < tot F) = true by simpa using E.out.1]
          go_wp2_with fail
          refine (cut_any r _ _ 0 _ hR).mono ?_
          rintro e w5 ⟨rfl, rfl⟩
          rw [clamp0, E.out.2.1, show decide (0 < tot F) = true by simpa using E.out.1]
          go_wp2_with fail
          refine (cut_any r _ _ 100 _ hR).mono ?_
          rintro e w5 ⟨rfl, rfl⟩
          rw [clamp100, E.out.2.2, show decide (0 < tot F) = true by simpa using E.out.1]
          go_wp2_with fail
          go_ret
          refine ⟨ret_bool ?_, hbz⟩
          first | rfl | (simp; done) | (simp; omega)

theorem hcuts_law (A : Option Addr) (k c : Nat) (xs : List Int) (p q : Int) (w : World) (hk : xs.length = k) (hc : k ≤ c) (hm : c ≤ maxLen) (hA : Lies w w.heap.size A (ints xs)) :
    Calls Try.prog 5 #[.slice A k c, .int .i64 p, .int .i64 q] w fun e w' => e = .returned (.bool true) ∧ Below w.heap.size w w' := by
  simp only [maxLen] at hm
  exact cuts_walk A k c xs p q w hk.symm hA (by omega)
end Go.Proofs.Ytgaicojidomenaa.W
