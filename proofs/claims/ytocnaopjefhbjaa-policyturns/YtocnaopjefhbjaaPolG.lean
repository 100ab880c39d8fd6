/- The law PolicyTurns: its walk. -/
import Derived.Test.YtocnaopjefhbjaaPolB
namespace Go.Proofs.Ytocnaopjefhbjaa.W
open Go.RowKit
set_option linter.unusedVariables false

/-- Numbers cut down to so many that they are counted. -/
def cutM (xs : List Int) : List Int := xs.map (fun x => x % 128)
theorem cutM_len (xs : List Int) : (cutM xs).length = xs.length := by simp [cutM]
theorem cutM_at {xs : List Int} {i : Nat} {x : Int} (h : xs[i]? = some x) : (cutM xs)[i]? = some (x % 128) := by simp [cutM, h]
theorem cutM_over (xs : List Int) : cntO (cutM xs) = 0 := by
  unfold cntO cutM
  rw [List.countP_eq_zero]
  intro a ha
  obtain ⟨x, _, rfl⟩ := List.mem_map.1 ha
  simp; omega
/-- Without such as are too long the last few make no difference. -/
theorem win_in (F : Nat → Nat) (ys zs : List Int) : win F 0 ys = win F 0 zs := by
  unfold win; rw [if_neg (show ¬ tot F + 0 < 2 * 0 by omega), if_neg (show ¬ tot F + 0 < 2 * 0 by omega)]

set_option maxRecDepth 100000 in
set_option maxHeartbeats 6400000 in
theorem pturns_walk (A : Option Addr) (k c : Nat) (xs : List Int) (at_ : Int) (w : World) (hk : k = xs.length) (hA : Lies w w.heap.size A (ints xs)) (hm : k ≤ 9223372036854775807) :
    Calls Try.prog 7 #[.slice A k c, .int .i64 at_] w fun e w' => e = .returned (.bool true) ∧ Below w.heap.size w w' := by
  have HK := Lib.hid hk
  clear hk
  obtain ⟨sh, hsh, hsh1⟩ := and_nat at_ 65535 16 65536 (by decide) (by decide) (by decide)
  by_cases h60 : 60 < k
  · go_enter Try.func7, Try.ntmps7
    go_wp2_with fail
    refine (pol_head _).mono ?_
    rintro e w1 ⟨rfl, hb1⟩
    go_wp2_with fail
    go_ret
    exact ⟨rfl, hb1⟩
  clear hm
  go_enter Try.func7, Try.ntmps7
  go_wp2_with fail
  refine (pol_head _).mono ?_
  rintro e w1 ⟨rfl, hb1⟩
  go_wp2_with fail
  refine (list_new _).mono ?_
  rintro e w2 ⟨rfl, hR2, hb2⟩
  obtain ⟨r, hr⟩ : ∃ r, w1.heap.size = r := ⟨_, rfl⟩
  have hrw : w.heap.size ≤ r := by rw [← hr]; exact hb1.size
  have hb3 := hb1.trans (hb2.mono hb1.size)
  rw [hr] at hR2 ⊢
  clear hb1 hb2 hr
  go_wp2_with fail
  refine (list_new _).mono ?_
  rintro e w3 ⟨rfl, hQ3, hb4⟩
  obtain ⟨q, hq⟩ : ∃ q, w2.heap.size = q := ⟨_, rfl⟩
  have hqw : w.heap.size ≤ q := by rw [← hq]; exact hb3.size
  have hrq : r < q := by have := hR2.lt; omega
  have hR3 := hR2.keep hb4 hR2.lt
  have hb5 := hb3.trans (hb4.mono hb3.size)
  rw [hq] at hQ3 ⊢
  clear hb3 hb4 hR2 hq
  go_wp2_with fail
  refine (ring_new _).mono ?_
  rintro e w4 ⟨rfl, hS4, hb6⟩
  obtain ⟨s, hs⟩ : ∃ s, w3.heap.size = s := ⟨_, rfl⟩
  have hsw : w.heap.size ≤ s := by rw [← hs]; exact hb5.size
  have hqs : q < s := by have := hQ3.lt; omega
  have hR4 := hR3.keep hb6 hR3.lt
  have hQ4 := hQ3.keep hb6 hQ3.lt
  have hb7 := hb5.trans (hb6.mono hb5.size)
  rw [hs] at hS4 ⊢
  clear hb5 hb6 hR3 hQ3 hs
  go_wp2_with fail
  refine (ring_new _).mono ?_
  rintro e w5 ⟨rfl, hP5, hb8⟩
  obtain ⟨t, ht⟩ : ∃ t, w4.heap.size = t := ⟨_, rfl⟩
  have htw : w.heap.size ≤ t := by rw [← ht]; exact hb7.size
  have hst : s < t := by have := hS4.lt; omega
  have hR5 := hR4.keep hb8 hR4.lt
  have hQ5 := hQ4.keep hb8 hQ4.lt
  have hS5 := hS4.keep hb8 hS4.lt
  have hb9 := hb7.trans (hb8.mono hb7.size)
  rw [ht] at hP5 ⊢
  clear hb7 hb8 hR4 hQ4 hS4 ht
  go_wp2_with fail
  go_loopg [26] k (fun gk vi wr => ∃ (i : Nat) (ys zs : List Int), vi = .int .i64 (i : Int) ∧ i + gk = k ∧ Hl wr r ((cutM xs).take i) ∧ Hl wr q (rot (cutM xs) sh i) ∧ Rg wr s ys ∧ Rg wr t zs ∧ Below w.heap.size w wr)
  case atStart => exact ⟨0, [], [], rfl, by omega, hR5, hQ5, hS5, hP5, hb9⟩
  case round =>
    obtain ⟨i, ys, zs, rfl, hik, hRz, hQz, hSz, hPz, hbz⟩ := hrel
    have HIK := Lib.hid hik
    clear hR5 hQ5 hS5 hP5 hb9
    by_cases hi : i < k
    · obtain ⟨ad, x, rfl, hblk, hx, hcx⟩ := hA.int (show i < xs.length by rw [← HK.out]; exact hi)
      have hcx' : wr.cell? (ad.add i) = some (.int .i64 x) := by rw [hbz.cell (by rw [blk_add]; exact hblk)]; exact hcx
      obtain ⟨n, hn⟩ : ∃ n, (i + sh) % k = n := ⟨_, rfl⟩
      have hnk : n < k := by rw [← hn]; exact Nat.mod_lt _ (by omega)
      obtain ⟨ad2, y, e2, hblk2, hy, hcy⟩ := hA.int (show n < xs.length by rw [← HK.out]; exact hnk)
      injection e2 with e2
      subst e2
      have hcy' : wr.cell? (ad.add n) = some (.int .i64 y) := by rw [hbz.cell (by rw [blk_add]; exact hblk)]; exact hcy
      have hrem : ((i : Int) + (sh : Int)).tmod (k : Int) = (n : Int) := by rw [← hn]; exact Int.ofNat_tmod (i + sh) k
      have hrem2 : ((i : Int) + (sh : Int)) % (k : Int) = (n : Int) := by rw [← hn]; rfl
      obtain ⟨a, ha, a1⟩ := and_nat x 127 7 128 (by decide) (by decide) (by decide)
      obtain ⟨b, hb, b1⟩ := and_nat y 127 7 128 (by decide) (by decide) (by decide)
      have HX : Hid ((cutM xs)[i]? = some (a : Int)) := Lib.hid (by rw [cutM_at hx, ← ha, and_mask x 127 7 128 (by decide) (by decide) (by decide)]; rfl)
      have HY : Hid ((cutM xs)[(i + sh) % (cutM xs).length]? = some (b : Int)) := Lib.hid (by rw [cutM_len, ← HK.out, hn, cutM_at hy, ← hb, and_mask y 127 7 128 (by decide) (by decide) (by decide)]; rfl)
      clear hik hcx hx hy hcy hn
      go_wp2_with fail
      clear hrem hrem2 ha hb hcx' hcy'
      refine (list_add r (a : Int) _ _ hRz (by simp; omega)).mono ?_
      rintro e w6 ⟨rfl, hR6, hg6⟩
      rw [← take_snoc HX.out] at hR6
      have hb6 := below_row hbz hrw hg6 hbz.size
      have hQ6 := hQz.off hg6 (by omega)
      have hS6 := hSz.off hg6 (by omega)
      have hP6 := hPz.off hg6 (by omega)
      clear hRz hQz hSz hPz hbz hg6
      go_wp2_with fail
      refine (ring_push s _ (a : Int) _ hS6).mono ?_
      rintro e w7 ⟨rfl, hS7, hg7⟩
      have hb7 := below_row hb6 hsw hg7 hb6.size
      have hR7 := hR6.off hg7 (by omega)
      have hQ7 := hQ6.off hg7 (by omega)
      have hP7 := hP6.off hg7 (by omega)
      clear hR6 hQ6 hS6 hP6 hb6 hg7
      go_wp2_with fail
      refine (list_add q (b : Int) _ _ hQ7 (by rw [rot_len]; omega)).mono ?_
      rintro e w8 ⟨rfl, hQ8, hg8⟩
      rw [← rot_succ HY.out] at hQ8
      have hb8 := below_row hb7 hqw hg8 hb7.size
      have hR8 := hR7.off hg8 (by omega)
      have hS8 := hS7.off hg8 (by omega)
      have hP8 := hP7.off hg8 (by omega)
      clear hR7 hQ7 hS7 hP7 hb7 hg8
      go_wp2_with fail
      refine (ring_push t _ (b : Int) _ hP8).mono ?_
      rintro e w9 ⟨rfl, hP9, hg9⟩
      have hb9 := below_row hb8 htw hg9 hb8.size
      have hR9 := hR8.off hg9 (by omega)
      have hQ9 := hQ8.off hg9 (by omega)
      have hS9 := hS8.off hg9 (by omega)
      clear hR8 hQ8 hS8 hP8 hb8 hg9
      go_wp2_with fail
      go_roundg (gk - 1)
      case measure => have := HIK.out; omega
      case rel => exact ⟨i + 1, _, _, by go_num, by have := HIK.out; omega, hR9, hQ9, hS9, hP9, hb9⟩
    · obtain rfl : k = i := by omega
      have hR : Hs wr r (cnt (cutM xs)) 0 := by
        rw [List.take_of_length_le (by rw [cutM_len, ← HK.out]; exact Nat.le_refl _)] at hRz
        have h := hRz; unfold Hl at h; rw [cutM_over] at h; exact h
      have hQ : Hs wr q (cnt (cutM xs)) 0 := by
        rw [HK.out, ← cutM_len xs] at hQz
        have h := hQz; unfold Hl at h; rw [rot_cnt, rot_cntO, cutM_over] at h; exact h
      obtain ⟨F, hF⟩ : ∃ F, cnt (cutM xs) = F := ⟨_, rfl⟩
      rw [hF] at hR hQ
      clear hik HIK hi hRz hQz hF
      obtain ⟨h, p, en, hwin, _, _, _⟩ := win_form F 0 []
      have HW : Hid (∀ ys, win F 0 ys = Win h p en) := Lib.hid (fun ys => (win_in F ys []).trans hwin)
      clear hwin
      go_wp2_with fail
      refine (of_any r s _ _ _ _ hR hSz).mono ?_
      rintro e w6 ⟨rfl, hb6⟩
      rw [HW.out]
      have hR6 := hR.keep hb6 hR.lt
      have hQ6 := hQ.keep hb6 hQ.lt
      have hS6 := hSz.keep hb6 hSz.lt
      have hP6 := hPz.keep hb6 hPz.lt
      have hb7 := hbz.trans (hb6.mono hbz.size)
      clear hR hQ hSz hPz hbz hb6
      go_wp2_with fail
      refine (of_any q t _ _ _ _ hQ6 hP6).mono ?_
      rintro e w7 ⟨rfl, hb8⟩
      rw [HW.out]
      have hR7 := hR6.keep hb8 hR6.lt
      have hS7 := hS6.keep hb8 hS6.lt
      have hb9 := hb7.trans (hb8.mono hb7.size)
      clear hR6 hQ6 hS6 hP6 hb7 hb8
      go_wp2_with fail
      refine (ring_new _).mono ?_
      rintro e w8 ⟨rfl, hN8, hb10⟩
      obtain ⟨u, hu⟩ : ∃ u, w7.heap.size = u := ⟨_, rfl⟩
      have hR8 := hR7.keep hb10 hR7.lt
      have hS8 := hS7.keep hb10 hS7.lt
      have hb11 := hb9.trans (hb10.mono hb9.size)
      rw [hu] at hN8 ⊢
      clear hR7 hS7 hb9 hb10 hu
      go_wp2_with fail
      refine (of_any r u _ _ _ _ hR8 hN8).mono ?_
      rintro e w9 ⟨rfl, hb12⟩
      rw [HW.out]
      have hR9 := hR8.keep hb12 hR8.lt
      have hS9 := hS8.keep hb12 hS8.lt
      have hb13 := hb11.trans (hb12.mono hb11.size)
      clear hR8 hS8 hN8 hb11 hb12
      go_wp2_with fail
      refine (of_any r s _ _ _ _ hR9 hS9).mono ?_
      rintro e w10 ⟨rfl, hb14⟩
      rw [HW.out]
      have hb15 := hb13.trans (hb14.mono hb13.size)
      go_wp2_with fail
      go_ret
      refine ⟨ret_bool ?_, hb15⟩
      first | rfl | (simp; done)

theorem pturns_law (A : Option Addr) (k c : Nat) (xs : List Int) (at_ : Int) (w : World) (hk : xs.length = k) (hc : k ≤ c) (hm : c ≤ maxLen) (hA : Lies w w.heap.size A (ints xs)) :
    Calls Try.prog 7 #[.slice A k c, .int .i64 at_] w fun e w' => e = .returned (.bool true) ∧ Below w.heap.size w w' := by
  simp only [maxLen] at hm
  exact pturns_walk A k c xs at_ w hk.symm hA (by omega)
end Go.Proofs.Ytocnaopjefhbjaa.W
