/- The law HeapSorts: its walk. -/
import Derived.Test.YtpagleilaaljoaaHpIJ
namespace Go.Proofs.Ytpagleilaaljoaa.W.HI
open Go.RowKit

/-- The first i of a list, by their places. -/
def lst (xs : List Int) (i : Nat) : Int → Option Int := fun z => if 0 ≤ z ∧ z < (i : Int) then xs[z.toNat]? else none
theorem lst_zero (xs : List Int) : lst xs 0 = fun _ => none := by funext z; unfold lst; rw [if_neg]; omega
theorem lst_succ {xs : List Int} {i : Nat} {x : Int} (h : xs[i]? = some x) : updZ (lst xs i) (i : Int) (some x) = lst xs (i + 1) := by
  funext z; unfold updZ lst
  by_cases e : z = (i : Int)
  · subst e; rw [if_pos rfl, if_pos (by omega)]; simp [h]
  · rw [if_neg e]
    by_cases q : 0 ≤ z ∧ z < (i : Int)
    · rw [if_pos q, if_pos (by omega)]
    · rw [if_neg q, if_neg (by omega)]
theorem lst_self (xs : List Int) (i : Nat) : lst xs i (i : Int) = none := by unfold lst; rw [if_neg]; omega
theorem lst_some {xs : List Int} {i : Nat} {z v : Int} (h : lst xs i z = some v) : ∃ q : Nat, z = (q : Int) ∧ q < i ∧ xs[q]? = some v := by
  unfold lst at h; split at h
  · rename_i q; exact ⟨z.toNat, by omega, by omega, h⟩
  · cases h
theorem wfN (i : Nat) (h : i < 1073741824) : (KL (i : Int)).wf = true := Go.WalkArith.wf_i64 ⟨by omega, by omega⟩

set_option maxRecDepth 100000 in
set_option maxHeartbeats 1600000 in
theorem sorts_walk (a0 : Option Addr) (k cap : Nat) (xs : List Int) (hl : xs.length = k) (hc : k ≤ cap) (_hm : cap ≤ maxLen) (w : World) (L : Lies w w.heap.size a0 (ints xs)) (wf : ∀ n ∈ xs, (Lit.int .i64 n).wf = true) :
    Calls Try.prog 4 #[.slice a0 k cap] w fun e w' => e = .returned (.bool true) ∧ Below w.heap.size w w' := by
  have HL := Lib.hid hl
  clear hl
  by_cases hk : 200 < k
  · have hki : decide ((200 : Int) < (k : Int)) = true := by simp; omega
    go_enter Try.func4, Try.ntmps4
    go_wp2_with fail
    refine (head8 _).mono ?_
    rintro e w1 ⟨rfl, b1⟩
    go_wp2_with fail
    go_ret
    exact ⟨rfl, b1⟩
  · have hki : decide ((200 : Int) < (k : Int)) = false := by simp; omega
    have hP : ∀ w1 : World, w.heap.size ≤ w1.heap.size → ∀ j, w1.heap.size ≤ j → (fun j => w.heap.size ≤ j) j := fun w1 h j q => by show w.heap.size ≤ j; omega
    go_enter Try.func4, Try.ntmps4
    go_wp2_with fail
    refine (head8 _).mono ?_
    rintro e w1 ⟨rfl, b1⟩
    go_wp2_with fail
    refine (q_new w1).mono ?_
    rintro e w2 ⟨rfl, h2, b2⟩
    obtain ⟨r, hr⟩ : ∃ r, w1.heap.size = r := ⟨_, rfl⟩
    have b3 := b1.trans (b2.mono b1.size)
    have hrw : w.heap.size ≤ r := by rw [← hr]; exact b1.size
    have h3 : Hq (fun j => w.heap.size ≤ j) w2 w1.heap.size 0 (lst xs 0) := by rw [lst_zero]; exact h2.mono (fun j q => by rw [q]; exact b1.size)
    rw [hr] at h3 ⊢
    clear h2 b2 b1 hr
    go_wp2_with fail
    go_loopg [22] k (fun gk vi wr => ∃ i : Nat, vi = .int .i64 (i : Int) ∧ i + gk = k ∧ Hq (fun j => w.heap.size ≤ j) wr r i (lst xs i) ∧ Below w.heap.size w wr)
    case atStart => exact ⟨0, rfl, by omega, h3, b3⟩
    case round =>
      obtain ⟨i, rfl, hik, hz, bz⟩ := hrel
      have HIK := Lib.hid hik
      clear h3 b3
      by_cases hi : i < k
      · obtain ⟨ad, x, ha, hab, hx, cx⟩ := (L.below bz (Nat.le_refl _)).int (i := i) (by rw [HL.out]; exact hi)
        subst ha
        have hii : (i : Int) < (k : Int) := by omega
        have hki2 : (k : Int) ≤ 200 := by omega
        have hwx := wf x (List.mem_of_getElem? hx)
        have HX := Lib.hid hx
        clear hik hx
        go_wp2_with fail
        refine (q_set _ r i _ (i : Int) x hz (wfN i (by omega)) hwx (by omega) (i + 1) (by rw [lst_self]; rfl) (hP _ bz.size)).mono ?_
        rintro e w4 ⟨rfl, h4, o4⟩
        rw [lst_succ HX.out] at h4
        have b4 := bz.trans (o4.below (fun _ q => q) bz.size)
        clear cx
        go_wp2_with fail
        go_roundg (gk - 1)
        case measure => have := HIK.out; omega
        case rel => exact ⟨i + 1, by go_num, by have := HIK.out; omega, h4, b4⟩
      · obtain rfl : i = k := by omega
        have hki2 : (i : Int) ≤ 200 := by omega
        clear hik HIK hi
        go_wp2_with fail
        go_loopg [6, 34] i (fun gk vl vi wr => ∃ (j : Nat) (last : Int) (A : Int → Option Int), vi = .int .i64 (j : Int) ∧ vl = .int .i64 last ∧ j + gk = i ∧ Hq (fun j => w.heap.size ≤ j) wr r gk A ∧ Hid (∀ z v, A z = some v → ∃ q : Nat, z = (q : Int) ∧ q < i ∧ xs[q]? = some v) ∧ Hid (0 < j → ∀ z v, A z = some v → last ≤ v) ∧ Below w.heap.size w wr)
        case atStart => exact ⟨0, 0, _, rfl, rfl, by omega, hz, Lib.hid (fun z v q => lst_some q), Lib.hid (fun q => absurd q (by omega)), bz⟩
        case round =>
          clear hz bz
          obtain ⟨j, last, A, rfl, rfl, hjk, hz, HA, HLS, bz⟩ := hrel
          have HJK := Lib.hid hjk
          by_cases hj : j < i
          · have hji : (j : Int) < (i : Int) := by omega
            have hg0 : 0 < gk := by omega
            have hg9 : gk < 1073741824 := by omega
            clear hjk
            go_wp2_with fail
            refine (q_min _ r gk A hz hg0 hg9).mono ?_
            rintro e w4 ⟨z, v, rfl, hzv, hmin, hzw, hvw, b4⟩
            have h4 := hz.below b4
            have b5 := bz.trans (b4.mono bz.size)
            obtain ⟨q, rfl, hqi, hxq⟩ := HA.out z v hzv
            obtain ⟨ad, x, ha, hab, hx, cx⟩ := (L.below b5 (Nat.le_refl _)).int (i := q) (by rw [HL.out]; exact hqi)
            subst ha
            obtain rfl : x = v := by rw [hxq] at hx; injection hx with hx; exact hx.symm
            have hqii : (q : Int) < (i : Int) := by omega
            have hqd : decide ((i : Int) ≤ (q : Int)) = false := by simp; omega
            have hlast : 0 < j → decide (x < last) = false := fun q => by have := HLS.out q _ _ hzv; simp; omega
            have HXQ := Lib.hid hx
            have HZV := Lib.hid hzv
            have HMN := Lib.hid hmin
            clear hx hxq hzv hmin
            rcases Nat.eq_zero_or_pos j with hj0 | hj0
            · subst hj0
              clear hlast
              go_wp2_with fail
              refine (q_drop _ r gk A (q : Int) x h4 HZV.out hg9 (gk - 1) (by omega) (hP _ b5.size)).mono ?_
              rintro e w6 ⟨rfl, h6, o6⟩
              have b6 := b5.trans (o6.below (fun _ q => q) b5.size)
              clear cx
              go_wp2_with fail
              go_roundg (gk - 1)
              case measure => omega
              case rel =>
                refine ⟨0 + 1, x, _, by go_num, rfl, by have := HJK.out; omega, h6, Lib.hid ?_, Lib.hid ?_, b6⟩
                · intro z v hq; unfold updZ at hq; split at hq
                  · cases hq
                  · exact HA.out z v hq
                · intro _ z v hq; unfold updZ at hq; split at hq
                  · cases hq
                  · exact HMN.out z v hq
            · have hl2 := hlast hj0
              have hj0i : (0 : Int) < (j : Int) := by omega
              clear hlast
              go_wp2_with fail
              refine (q_drop _ r gk A (q : Int) x h4 HZV.out hg9 (gk - 1) (by omega) (hP _ b5.size)).mono ?_
              rintro e w6 ⟨rfl, h6, o6⟩
              have b6 := b5.trans (o6.below (fun _ q => q) b5.size)
              clear cx
              go_wp2_with fail
              go_roundg (gk - 1)
              case measure => omega
              case rel =>
                refine ⟨j + 1, x, _, by go_num, rfl, by have := HJK.out; omega, h6, Lib.hid ?_, Lib.hid ?_, b6⟩
                · intro z v hq; unfold updZ at hq; split at hq
                  · cases hq
                  · exact HA.out z v hq
                · intro _ z v hq; unfold updZ at hq; split at hq
                  · cases hq
                  · exact HMN.out z v hq
          · obtain rfl : j = i := by omega
            obtain rfl : gk = 0 := by omega
            clear hjk HJK
            go_wp2_with fail
            refine (q_min0 _ r A hz).mono ?_
            rintro e w4 ⟨rfl, b4⟩
            have h4 := hz.below b4
            go_wp2_with fail
            refine (q_len _ r 0 A h4).mono ?_
            rintro e w5 ⟨rfl, rfl⟩
            go_wp2_with fail
            go_ret
            exact ⟨rfl, bz.trans (b4.mono bz.size)⟩
end Go.Proofs.Ytpagleilaaljoaa.W.HI
