/- Contracts of cast.Next, of the law's own cut and Next, and of its head. -/
import Derived.Test.YtocnaopjefhbjaaCastA
import Derived.Test.YtocnaopjefhbjaaInfo
namespace Go.Proofs.Ytocnaopjefhbjaa.W
open Go.RowKit

theorem add_zero (a : Addr) : a.add 0 = a := by simp [Addr.add]

/-- The last eight of a slice. -/
theorem lies_last {w : World} {B k : Nat} {A A' : Option Addr} {xs : List Int} (hA : Lies w B A (ints xs)) (hk : k = xs.length) (h : A' = A.map (·.add (k - 8)) ∨ k ≤ k - 8) : Lies w B A' (ints (last8 xs)) := by
  have e : ints (last8 xs) = (ints xs).drop (k - 8) := by simp [last8, ints, hk, List.map_drop]
  rw [e]
  refine hA.drop _ _ ?_
  intro hlt
  simp [ints] at hlt
  rcases h with h | h
  · exact h
  · omega
theorem first_of {k : Nat} {ad : Addr} {A' : Option Addr} (h1 : k = 1) (h : A' = (some ad).map (·.add (k - 8)) ∨ k ≤ k - 8) : A' = some ad := by
  rcases h with h | h
  · rw [h, show k - 8 = 0 by omega]; simp [add_zero]
  · omega
theorem two_up {k m : Nat} (h : k - (k - 8) = m) (h0 : ¬ k = 0) (h1 : ¬ k = 1) : 2 ≤ m ∧ m ≤ 8 ∧ ((m : Int) == 0) = false ∧ ((m : Int) == 1) = false := by
  refine ⟨by omega, by omega, ?_, ?_⟩ <;> simp <;> omega
theorem last8_len' {k m : Nat} {xs : List Int} (hk : k = xs.length) (hm : k - (k - 8) = m) : m = (last8 xs).length := by rw [last8_len]; omega

set_option maxRecDepth 100000 in
set_option maxHeartbeats 1600000 in
theorem next_any (A : Option Addr) (B k c : Nat) (xs : List Int) (w : World) (hk : k = xs.length) (hc : k ≤ c) (hm : c ≤ 9223372036854775807) (hA : Lies w B A (ints xs)) :
    Calls Try.prog 24 #[.slice A k c] w fun e w' => e = .returned (.int .i64 (nextI xs)) ∧ ∃ q, w' = w.drewN q := by
  obtain ⟨i, hi⟩ := Option.isSome_iff_exists.1 (show (Try.prog.info? 2).isSome = true by kernel_rfl)
  have hs : i.size = 1 := by have h := infoI; rw [hi] at h; simp at h; exact h.2.1
  have hmx : ((k - 8 : Nat) : Int) = max (0 : Int) ((k : Int) - 8) := by omega
  have HM := Lib.hid hmx
  have HK := Lib.hid hk
  have hi8 : (-8 : Int) ≤ (k : Int) - 8 ∧ (k : Int) - 8 ≤ 9223372036854775807 := by omega
  clear hmx hk
  by_cases h0 : k = 0
  · have e0 : nextI xs = 0 := by obtain rfl : xs = [] := List.eq_nil_of_length_eq_zero (by rw [← HK.out]; exact h0); rfl
    have E0 := Lib.hid e0
    have H0 := Lib.hid h0
    clear e0 h0
    go_enter Try.func24, Try.ntmps24
    go_wp2_with (first
      | (with_reducible refine wpList_max_to rfl (.const (.int .i64 0)) (.tmp 7) 3 3 rfl .i64 .i64 0 ((k : Int) - 8) ((k - 8 : Nat) : Int) rfl rfl HM.out ?_)
      | (with_reducible refine wpList_from rfl (.tmp 4) (.tmp 8) 22 rfl 2 i Try.underlying22 hi hs A k c (k - 8) .i64 rfl rfl (by omega) hc ?_; intro A' HA'; rw [show k - (k - 8) = 0 by have := H0.out; omega]))
    go_ret
    exact ⟨ret_int E0.out.symm, 0, rfl⟩
  by_cases h1 : k = 1
  · obtain ⟨x, rfl⟩ : ∃ x, xs = [x] := by
      have h := HK.out
      rw [h1] at h
      match xs, h with
      | [x], _ => exact ⟨x, rfl⟩
    obtain ⟨ad, y, rfl, hb, hx, hcx⟩ := hA.int (i := 0) (by simp)
    obtain rfl : y = x := by simpa using hx.symm
    rw [add_zero] at hcx
    have e0 : nextI [y] = clip y := rfl
    have E0 := Lib.hid e0
    have H1 := Lib.hid h1
    clear e0 hx h0 h1
    go_enter Try.func24, Try.ntmps24
    go_wp2_with (first
      | (with_reducible refine wpList_max_to rfl (.const (.int .i64 0)) (.tmp 7) 3 3 rfl .i64 .i64 0 ((k : Int) - 8) ((k - 8 : Nat) : Int) rfl rfl HM.out ?_)
      | (with_reducible refine wpList_from rfl (.tmp 4) (.tmp 8) 22 rfl 2 i Try.underlying22 hi hs (some ad) k c (k - 8) .i64 rfl rfl (by omega) hc ?_; intro A' HA'; obtain rfl := first_of H1.out HA'.out; rw [show k - (k - 8) = 1 by have := H1.out; omega]))
    refine (within_any _ _).mono ?_
    rintro e w' ⟨rfl, rfl⟩
    go_wp2_with fail
    go_ret
    exact ⟨ret_int E0.out.symm, 0, rfl⟩
  · have e0 : nextI xs = behI (last8 xs) := nextL_two (by rw [last8_len, ← HK.out]; omega)
    have E0 := Lib.hid e0
    clear e0
    go_enter Try.func24, Try.ntmps24
    go_wp2_with (first
      | (with_reducible refine wpList_max_to rfl (.const (.int .i64 0)) (.tmp 7) 3 3 rfl .i64 .i64 0 ((k : Int) - 8) ((k - 8 : Nat) : Int) rfl rfl HM.out ?_)
      | (with_reducible refine wpList_from rfl (.tmp 4) (.tmp 8) 22 rfl 2 i Try.underlying22 hi hs A k c (k - 8) .i64 rfl rfl (by omega) hc ?_; intro A' HA'; have hL := lies_last hA HK.out HA'.out; obtain ⟨m, hm0⟩ : ∃ m, k - (k - 8) = m := ⟨_, rfl⟩; have HN := Lib.hid (last8_len' HK.out hm0); have hmm : 2 ≤ m ∧ m ≤ 8 ∧ ((m : Int) == 0) = false ∧ ((m : Int) == 1) = false := two_up hm0 h0 h1; obtain ⟨hm2, hm8, hb0, hb1⟩ := hmm; rw [hm0]; clear hm0))
    refine (behind_any A' B m _ _ _ HN.out hm2 hm8 hL).mono ?_
    rintro e w' ⟨rfl, q, rfl⟩
    go_wp2_with fail
    go_ret
    exact ⟨ret_int E0.out.symm, q, rfl⟩

set_option maxHeartbeats 400000 in
theorem lawCut_any (x : Int) (w : World) : Calls Try.prog 30 #[.int .i64 x] w fun e w' => e = .returned (.int .i64 (clip x)) ∧ w = w' := by
  go_enter Try.func30, Try.ntmps30
  go_wp2
  all_goals go_ret
  all_goals exact ⟨ret_int (by unfold clip clampI; omega), rfl⟩

theorem lies_made (w : World) (l : List Int) (e : TypeId) : Lies (w.alloc (.cells (ints l).toArray e)) (w.heap.size + 1) (some ⟨w.heap.size, 0, none⟩) (ints l) := by
  intro j v hv
  refine ⟨_, rfl, by simp, ?_⟩
  rw [add_lit0, cell_of_row _ _ _ _ _ _ (heap_alloc_new w _)]
  simpa using hv

theorem below_next {B q : Nat} {w0 w w' : World} (hb : Below B w0 w) (h : w' = w.drewN q) : Below B w0 w' := by rw [h]; exact below_drewN hb q
theorem lies_next {B q : Nat} {A : Option Addr} {vs : List Value} {w w' : World} (hl : Lies w B A vs) (h : w' = w.drewN q) : Lies w' B A vs := by rw [h]; exact hl
end Go.Proofs.Ytocnaopjefhbjaa.W
