/- Contracts of package cast. -/
import Derived.Test.YtocnaopjefhbjaaRows
import Derived.Test.YtocnaopjefhbjaaCastM
namespace Go.Proofs.Ytocnaopjefhbjaa.W
open Go.RowKit

set_option maxHeartbeats 400000 in
theorem within_any (x : Int) (w : World) : Calls Try.prog 34 #[.int .i64 x] w fun e w' => e = .returned (.int .i64 (clip x)) ∧ w = w' := by
  go_enter Try.func34, Try.ntmps34
  go_wp2_with fail
  refine (clamp_any _ _ _ _).mono ?_
  rintro e w' ⟨rfl, rfl⟩
  go_wp2_with fail
  go_ret
  exact ⟨rfl, rfl⟩

set_option maxRecDepth 100000 in
set_option maxHeartbeats 1600000 in
theorem behind_any (A : Option Addr) (B k c : Nat) (xs : List Int) (w : World) (hk : k = xs.length) (h2 : 2 ≤ k) (h8 : k ≤ 8) (hA : Lies w B A (ints xs)) :
    Calls Try.prog 35 #[.slice A k c] w fun e w' => e = .returned (.int .i64 (behI xs)) ∧ ∃ q, w' = w.drewN q := by
  have HK := Lib.hid hk
  clear hk
  go_enter Try.func35, Try.ntmps35
  go_wp2_with fail
  go_loopg [4, 11] k (fun gk vs vi wr => ∃ i : Nat, ∃ s : Int, vi = .int .i64 (i : Int) ∧ vs = .int .i64 s ∧ i + gk = k ∧ s = ws k 0 (xs.take i) ∧ -23089744183296 * (i : Int) ≤ s ∧ s ≤ 23089744183296 * (i : Int) ∧ ∃ q, wr = w.drewN q)
  case atStart => exact ⟨0, 0, rfl, rfl, by omega, rfl, by omega, by omega, 0, rfl⟩
  case round =>
    obtain ⟨i, s, rfl, rfl, hik, hs, hs0, hs1, q, hq⟩ := hrel
    have HQ := Lib.hid hq
    have HIK := Lib.hid hik
    have HS := Lib.hid hs
    by_cases hi : i < k
    · obtain ⟨ad, x, rfl, hblk, hx, hcx⟩ := hA.int (show i < xs.length by rw [← HK.out]; exact hi)
      have hcx' : wr.cell? (ad.add i) = some (.int .i64 x) := by rw [hq]; exact hcx
      have HX := Lib.hid hx
      clear hik hcx hx hq hs
      have hp := weigh x (3 * (i : Int) - ((k : Int) - 1)) (by omega) (by omega)
      obtain ⟨cx, hcl⟩ : ∃ cx, clip x = cx := ⟨_, rfl⟩
      have HC := Lib.hid hcl
      rw [hcl] at hp
      obtain ⟨hp0, hp1⟩ := hp
      clear hcl
      go_wp2_with fail
      refine (within_any _ _).mono ?_
      rintro e w' ⟨rfl, rfl⟩
      rw [HC.out]
      go_wp2_with fail
      go_roundg (gk - 1)
      case measure => have := HIK.out; omega
      case rel =>
        refine ⟨i + 1, s + cx * (3 * (i : Int) - ((k : Int) - 1)), by go_num, rfl, by have := HIK.out; omega, ?_, by omega, by omega, q, HQ.out⟩
        rw [take_snoc HX.out, ws_snoc, ← HS.out, HC.out]
        have hl : (xs.take i).length = i := by simp; rw [← HK.out]; omega
        rw [hl]; simp
    · obtain rfl : i = k := by omega
      rw [List.take_of_length_le (by rw [HK.out]; exact Nat.le_refl _)] at hs HS
      have hd : -1 ≤ (i : Int) * ((i : Int) - 1) ∧ (i : Int) * ((i : Int) - 1) ≤ 56 := by
        have h7 : i = 2 ∨ i = 3 ∨ i = 4 ∨ i = 5 ∨ i = 6 ∨ i = 7 ∨ i = 8 := by omega
        rcases h7 with h | h | h | h | h | h | h <;> rw [h] <;> omega
      obtain ⟨hd0, hd1⟩ := hd
      clear hik HIK hq hs
      go_wp2_with fail
      refine (frac_any _ _ _ ⟨by omega, by omega⟩ ⟨by omega, by omega⟩ ⟨by omega, by omega⟩ _).mono ?_
      rintro e w' ⟨rfl, j, rfl⟩
      go_wp2_with fail
      refine (within_any _ _).mono ?_
      rintro e w' ⟨rfl, rfl⟩
      go_wp2_with fail
      go_ret
      refine ⟨ret_int ?_, q + j, by rw [HQ.out]; exact drewN_two _ _ _⟩
      unfold behI
      rw [← HK.out, HS.out]
end Go.Proofs.Ytocnaopjefhbjaa.W
