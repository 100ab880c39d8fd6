/- The law BoxOnes. -/
import Derived.Test.YthmmobhbakmbpaaBoxB
import Derived.Deep.LoopGhost
namespace Go.Proofs.Ythmmobhbakmbpaa.W
open Go.RowKit

def Ph.rn : Ph → Int
  | .bound => 1
  | .busy => 1
  | _ => 0
def Ph.dd : Ph → Bool
  | .dead => true
  | _ => false

set_option maxRecDepth 100000 in
set_option maxHeartbeats 6400000 in
theorem ones_walk (a0 : Option Addr) (k cap : Nat) (xs : List Int) (hl : xs.length = k) (_hc : k ≤ cap) (w : World) (L : Lies w w.heap.size a0 (ints xs)) :
    Calls Try.prog 4 #[.slice a0 k cap] w fun e w' => e = .returned (.bool true) ∧ Below w.heap.size w w' := by
  have HL := Lib.hid hl
  clear hl
  by_cases hk : 200 < k
  · have hki : decide ((200 : Int) < (k : Int)) = true := by simp; omega
    go_enter Try.func4, Try.ntmps4
    go_wp2_with fail
    refine (head12 _).mono ?_
    rintro e w1 ⟨rfl, b1⟩
    go_wp2_with fail
    go_ret
    exact ⟨rfl, b1⟩
  · have hki : decide ((200 : Int) < (k : Int)) = false := by simp; omega
    have hkk := Lib.hid (show k ≤ 200 by omega)
    go_enter Try.func4, Try.ntmps4
    go_wp2_with fail
    refine (head12 _).mono ?_
    rintro e w1 ⟨rfl, b1⟩
    go_wp2_with fail
    refine (bx_new 1 1 1 1 0 w1).mono ?_
    rintro e w2 ⟨rfl, h2, b2⟩
    obtain ⟨b, hb⟩ : ∃ b, w1.heap.size = b := ⟨_, rfl⟩
    have bb2 := b1.trans (b2.mono b1.size)
    have hlb : w.heap.size ≤ b := by rw [← hb]; exact b1.size
    rw [hb] at h2
    rw [hb]
    clear hb b1 b2 hk
    go_wp2_with fail
    clear hki
    go_loopg [4, 5, 16] k (fun gk v4 v5 vi wr => ∃ (i : Nat) (q : Ph) (t : Int), v4 = .int .i64 q.rn ∧ v5 = .bool q.dd ∧ vi = .int .i64 (i : Int) ∧ i + gk = k ∧ Bx wr b ⟨1, 1, 1, 1, q, false, t⟩ ∧ Below w.heap.size w wr)
    case atStart => exact ⟨0, .boot, 0, rfl, rfl, rfl, by omega, h2, bb2⟩
    case round =>
      clear h2 bb2
      obtain ⟨i, q, t, rfl, rfl, rfl, hik, hz, bz⟩ := hrel
      have HIK := Lib.hid hik
      by_cases hi : i < k
      · obtain ⟨ad, x, hA, hadb, hx, hcell⟩ := (L.below bz (Nat.le_refl _)).int (i := i) (by rw [HL.out]; exact hi)
        subst hA
        have hi2 : (i : Int) < 200 := by have := hkk.out; omega
        obtain ⟨s, y, hy, hs⟩ := stp_of x
        have HX := Lib.hid hx
        clear hx hik
        rcases hs with ⟨rfl, rfl⟩ | ⟨rfl, rfl⟩ | ⟨rfl, rfl⟩ | ⟨rfl, rfl⟩
        · cases q <;>
          · simp only [Ph.rn, Ph.dd]
            go_wp2_with fail
            refine (bx_call b _ (i : Int) _ hz).mono ?_
            rintro e w3 ⟨rfl, h3, g3⟩
            have b3 := below_row bz hlb g3 bz.size
            simp only [nx] at h3 ⊢
            have c4 := cellL h3 4 _ rfl
            simp only [Ph.st] at c4
            clear hcell hz bz g3
            go_wp2_with fail
            refine (bx_runs b _ _ h3).mono ?_
            rintro e w4 ⟨rfl, rfl⟩
            simp only [Ph.runs]
            go_wp2_with fail
            go_roundg (gk - 1)
            case measure => have := HIK.out; omega
            case rel => exact ⟨i + 1, _, _, rfl, rfl, by go_num, by have := HIK.out; omega, h3, b3⟩
        · cases q <;>
          · simp only [Ph.rn, Ph.dd]
            go_wp2_with fail
            refine (bx_booted b _ (i : Int) _ hz).mono ?_
            rintro e w3 ⟨rfl, h3, g3⟩
            have b3 := below_row bz hlb g3 bz.size
            simp only [nx] at h3 ⊢
            have c4 := cellL h3 4 _ rfl
            simp only [Ph.st] at c4
            clear hcell hz bz g3
            go_wp2_with fail
            refine (bx_runs b _ _ h3).mono ?_
            rintro e w4 ⟨rfl, rfl⟩
            simp only [Ph.runs]
            go_wp2_with fail
            go_roundg (gk - 1)
            case measure => have := HIK.out; omega
            case rel => exact ⟨i + 1, _, _, rfl, rfl, by go_num, by have := HIK.out; omega, h3, b3⟩
        · cases q <;>
          · simp only [Ph.rn, Ph.dd]
            go_wp2_with fail
            refine (bx_done b _ (i : Int) _ hz).mono ?_
            rintro e w3 ⟨rfl, h3, g3⟩
            have b3 := below_row bz hlb g3 bz.size
            simp only [nx] at h3 ⊢
            have c4 := cellL h3 4 _ rfl
            simp only [Ph.st] at c4
            clear hcell hz bz g3
            go_wp2_with fail
            refine (bx_runs b _ _ h3).mono ?_
            rintro e w4 ⟨rfl, rfl⟩
            simp only [Ph.runs]
            go_wp2_with fail
            go_roundg (gk - 1)
            case measure => have := HIK.out; omega
            case rel => exact ⟨i + 1, _, _, rfl, rfl, by go_num, by have := HIK.out; omega, h3, b3⟩
        · cases q <;>
          · simp only [Ph.rn, Ph.dd]
            go_wp2_with fail
            refine (bx_kill b _ (i : Int) _ hz).mono ?_
            rintro e w3 ⟨rfl, h3, g3⟩
            have b3 := below_row bz hlb g3 bz.size
            simp only [nx] at h3 ⊢
            have c4 := cellL h3 4 _ rfl
            simp only [Ph.st] at c4
            clear hcell hz bz g3
            go_wp2_with fail
            refine (bx_runs b _ _ h3).mono ?_
            rintro e w4 ⟨rfl, rfl⟩
            simp only [Ph.runs]
            go_wp2_with fail
            go_roundg (gk - 1)
            case measure => have := HIK.out; omega
            case rel => exact ⟨i + 1, _, _, rfl, rfl, by go_num, by have := HIK.out; omega, h3, b3⟩
      · obtain rfl : i = k := by omega
        clear hik hi
        go_wp2_with fail
        go_ret
        exact ⟨rfl, bz⟩

end Go.Proofs.Ythmmobhbakmbpaa.W
