/- Contracts of package bucket. -/
import Derived.Test.YtancebpkiioaiaaRows
import Derived.Test.YtancebpkiioaiaaBlk
import Derived.Test.YtancebpkiioaiaaMp
import Derived.BigRegion
namespace Go.Proofs.Ytancebpkiioaiaa.W
open Go.RowKit

/-- A number within its bounds. -/
def bnd (n : Int) : Nat := (min (max n 0) 1000).toNat
theorem bnd_le (n : Int) : bnd n ≤ 1000 := by unfold bnd; omega
theorem bnd_lo {n : Int} (h : n < 0) : bnd n = 0 := by unfold bnd; omega
theorem bnd_hi {n : Int} (h : 1000 < n) : bnd n = 1000 := by unfold bnd; omega
theorem bnd_mid {n : Int} (h : 0 ≤ n) (k : n ≤ 1000) : (bnd n : Int) = n := by unfold bnd; omega
theorem bnd_eq (n : Int) : (bnd n : Int) = min (max n 0) 1000 := by unfold bnd; omega

set_option maxRecDepth 100000 in
set_option maxHeartbeats 800000 in
theorem within_any (n : Int) (w : World) : Calls Try.prog 34 #[.int .i64 n] w fun e w' => e = .returned (.int .i64 (bnd n : Int)) ∧ w = w' := by
  go_enter Try.func34, Try.ntmps34
  go_wp2_with (first
    | (with_reducible refine wpList_max_to rfl (.tmp 3) (.const (.int .i64 0)) 3 3 rfl .i64 .i64 n 0 (max n 0) rfl rfl rfl ?_)
    | (with_reducible refine wpList_min_to rfl (.tmp 4) (.const (.int .i64 1000)) 3 3 rfl .i64 .i64 (max n 0) 1000 (bnd n : Int) rfl rfl (bnd_eq n) ?_))
  go_ret
  exact ⟨rfl, rfl⟩

set_option maxRecDepth 100000 in
set_option maxHeartbeats 800000 in
theorem bound_any (n : Int) (w : World) : Calls Try.prog 14 #[.int .i64 n] w fun e w' => e = .returned (.int .i64 (bnd n : Int)) ∧ w = w' := by
  by_cases h0 : n < 0
  · rw [bnd_lo h0]
    go_enter Try.func14, Try.ntmps14
    go_wp2
    go_ret
    exact ⟨rfl, rfl⟩
  · have d0 : decide (n < 0) = false := by simp; omega
    by_cases h1 : 1000 < n
    · have d1 : decide (1000 < n) = true := by simp; omega
      rw [bnd_hi h1]
      clear h0 h1
      go_enter Try.func14, Try.ntmps14
      go_wp2
      go_ret
      exact ⟨rfl, rfl⟩
    · have d1 : decide (1000 < n) = false := by simp; omega
      rw [bnd_mid (by omega) (by omega)]
      clear h0 h1
      go_enter Try.func14, Try.ntmps14
      go_wp2
      go_ret
      exact ⟨rfl, rfl⟩

/-- A bucket's block: how many there may be, how many come, how many there are. -/
def Bk (w : World) (b s r t : Nat) : Prop :=
  s ≤ 1000 ∧ r ≤ 1000 ∧ t ≤ s ∧ w.heap[b]? = some (.cells [Value.int .i64 (s : Int), .int .i64 (r : Int), .int .i64 (t : Int)].toArray 68 (0, 0))
theorem Bk.lt {w : World} {b s r t : Nat} (h : Bk w b s r t) : b < w.heap.size := lt_of_row h.2.2.2
theorem Bk.keep {w w' : World} {b s r t B : Nat} (h : Bk w b s r t) (hb : Below B w w') (hr : b < B) : Bk w' b s r t := ⟨h.1, h.2.1, h.2.2.1, by rw [hb.block b hr]; exact h.2.2.2⟩
theorem Bk.off {w w' : World} {b s r t q : Nat} (h : Bk w b s r t) (hb : w.grownBy w' (some q)) (hr : b ≠ q) : Bk w' b s r t :=
  ⟨h.1, h.2.1, h.2.2.1, by rw [hb.block b h.lt (by simpa using hr)]; exact h.2.2.2⟩

set_option maxRecDepth 100000 in
set_option maxHeartbeats 800000 in
theorem b_tokens (b s r t : Nat) (w : World) (h : Bk w b s r t) :
    Calls Try.prog 18 #[.pointer (some ⟨b, 0, none⟩)] w fun e w' => e = .returned (.int .i64 (t : Int)) ∧ w = w' := by
  have h3 := cellL h.2.2.2 2 _ rfl
  clear h
  go_enter Try.func18, Try.ntmps18
  go_wp2
  go_ret
  exact ⟨rfl, rfl⟩

set_option maxRecDepth 100000 in
set_option maxHeartbeats 800000 in
theorem b_take (b s r t : Nat) (w : World) (h : Bk w b s r t) :
    Calls Try.prog 17 #[.pointer (some ⟨b, 0, none⟩)] w fun e w' => e = .returned (.bool (decide (0 < t))) ∧ Bk w' b s r (t - 1) ∧ w.grownBy w' (some b) := by
  have h3 := cellL h.2.2.2 2 _ rfl
  have H := Lib.hid h
  have hg := Lib.hid h.2.2.2
  have h1k : (t : Int) ≤ 1000 := by have := h.1; have := h.2.2.1; omega
  clear h
  cases t with
  | zero =>
    go_enter Try.func17, Try.ntmps17
    go_wp2
    go_ret
    exact ⟨rfl, H.out, World.grownBy.refl _ _⟩
  | succ n =>
    have hn : ((n + 1 : Nat) : Int) = (n : Int) + 1 := by omega
    rw [hn] at h3 h1k
    have hne : ((n : Int) + 1 == 0) = false := by simp; omega
    have hnn : (n : Int) + 1 - 1 = n := by omega
    clear hn
    go_enter Try.func17, Try.ntmps17
    go_wp2_with (with_reducible refine wpList_store_in rfl 3 (.tmp 14) (.tmp 12) rfl (by kernel_rfl) b 2 rfl .i64 (n : Int) rfl _ _ hg.out (by simp) ?_; intro w2 HG2 hg2)
    go_ret
    refine ⟨?_, ⟨H.out.1, H.out.2.1, by have := H.out.2.2.1; omega, HG2.out⟩, hg2⟩
    simp

theorem min_nat {a b m : Nat} (h : m = min a b) : (m : Int) = min (a : Int) (b : Int) := by omega

set_option maxRecDepth 100000 in
set_option maxHeartbeats 800000 in
theorem b_tick (b s r t : Nat) (w : World) (h : Bk w b s r t) :
    Calls Try.prog 15 #[.pointer (some ⟨b, 0, none⟩)] w fun e w' => e = .returned (.tuple #[]) ∧ Bk w' b s r (min (t + r) s) ∧ w.grownBy w' (some b) := by
  have h0 := cellL h.2.2.2 0 _ rfl
  have h1 := cellL h.2.2.2 1 _ rfl
  have h2 := cellL h.2.2.2 2 _ rfl
  have H := Lib.hid h
  have hg := Lib.hid h.2.2.2
  have hs : (s : Int) ≤ 1000 := by have := h.1; omega
  have hr : (r : Int) ≤ 1000 := by have := h.2.1; omega
  have ht : (t : Int) ≤ 1000 := by have := h.1; have := h.2.2.1; omega
  obtain ⟨m, hm⟩ : ∃ m, m = min (t + r) s := ⟨_, rfl⟩
  have hif : (if (s : Int) < (t : Int) + (r : Int) then (s : Int) else (t : Int) + (r : Int)) = (m : Int) := by subst hm; split <;> omega
  have hw : IntKind.i64.wrap ((t : Int) + (r : Int)) = (t : Int) + (r : Int) := by rw [IntKind.wrap_i64]; omega
  rw [← hm]
  have HM := Lib.hid hm
  clear h hm
  go_enter Try.func15, Try.ntmps15
  go_still_tail 17, (by kernel_rfl)
  change wpList _ _ _ _ _ w.drew
  have hd := grown_drew (World.grownBy.refl w (some b))
  have hg1 : Hid (w.drew.heap[b]? = _) := hg
  generalize w.drew = w1 at hd hg1 ⊢
  refine wpList_store_in rfl 3 (.tmp 18) (.tmp 16) rfl (by kernel_rfl) b 2 rfl .i64 (m : Int) rfl _ _ hg1.out (by simp) ?_
  intro w2 HG2 hg2
  clear h0 h1 h2 hif hw
  go_wp2
  go_end0
  exact ⟨rfl, ⟨H.out.1, H.out.2.1, by have := HM.out; omega, HG2.out⟩, grown_trans hd hg2⟩

set_option maxRecDepth 100000 in
set_option maxHeartbeats 800000 in
theorem b_set (b s r t : Nat) (x y : Int) (w : World) (h : Bk w b s r t) :
    Calls Try.prog 16 #[.pointer (some ⟨b, 0, none⟩), .int .i64 x, .int .i64 y] w fun e w' => e = .returned (.tuple #[]) ∧ Bk w' b (bnd x) (bnd y) (min t (bnd x)) ∧ w.grownBy w' (some b) := by
  have hg := Lib.hid h.2.2.2
  have hx := bnd_le x
  have hy := bnd_le y
  obtain ⟨sx, hsx⟩ : ∃ sx, bnd x = sx := ⟨_, rfl⟩
  obtain ⟨sy, hsy⟩ : ∃ sy, bnd y = sy := ⟨_, rfl⟩
  obtain ⟨m, hm⟩ : ∃ m, m = min t (bnd x) := ⟨_, rfl⟩
  have hif : (if sx < t then (sx : Int) else (t : Int)) = (m : Int) := by subst hm hsx; split <;> omega
  rw [← hm]
  have HM := Lib.hid hm
  have HX := Lib.hid hsx
  have HY := Lib.hid hsy
  clear h hm hsx hsy
  go_enter Try.func16, Try.ntmps16
  go_wp2_with fail
  refine (within_any x w).mono ?_
  rintro e w1 ⟨rfl, rfl⟩
  rw [HX.out]
  go_wp2_with fail
  refine (within_any y w).mono ?_
  rintro e w1 ⟨rfl, rfl⟩
  rw [HY.out]
  go_wp2_with (first
    | (with_reducible refine wpList_store_in rfl 3 (.tmp 13) (.tmp 9) rfl (by kernel_rfl) b 0 rfl .i64 (sx : Int) rfl _ _ hg.out (by simp) ?_; intro w2 HG2 hg2)
    | (with_reducible refine wpList_store_in rfl 3 (.tmp 15) (.tmp 11) rfl (by kernel_rfl) b 1 rfl .i64 (sy : Int) rfl _ _ HG2.out (by simp) ?_; intro w3 HG3 hg3))
  have h0 := cellL HG3.out 0 _ rfl
  have h2 := cellL HG3.out 2 _ rfl
  go_still_tail 12, (by kernel_rfl)
  change wpList _ _ _ _ _ w3.drew
  have hd := grown_drew (grown_trans hg2 hg3)
  have hg1 : Hid (w3.drew.heap[b]? = _) := HG3
  generalize w3.drew = w4 at hd hg1 ⊢
  refine wpList_store_in rfl 3 (.tmp 27) (.tmp 25) rfl (by kernel_rfl) b 2 rfl .i64 (m : Int) rfl _ _ hg1.out (by simp) ?_
  intro w5 HG5 hg5
  clear h0 h2 hif
  go_wp2
  go_end0
  rw [HX.out] at hx ⊢
  rw [HY.out] at hy ⊢
  exact ⟨rfl, ⟨hx, hy, by have := HM.out; have := HX.out; omega, HG5.out⟩, grown_trans hd hg5⟩

set_option maxRecDepth 100000 in
set_option maxHeartbeats 800000 in
theorem b_new (x y : Int) (w : World) :
    Calls Try.prog 13 #[.int .i64 x, .int .i64 y] w fun e w' => e = .returned (.pointer (some ⟨w.heap.size, 0, none⟩)) ∧ Bk w' w.heap.size (bnd x) (bnd y) (bnd x) ∧ Below w.heap.size w w' := by
  have hb : Below w.heap.size w (w.alloc (.cells [Value.int .i64 0, .int .i64 0, .int .i64 0].toArray 68)) := (Below.refl _ _).alloc (Nat.le_refl _) _
  have hB : Bk (w.alloc (.cells [Value.int .i64 0, .int .i64 0, .int .i64 0].toArray 68)) w.heap.size 0 0 0 := ⟨by decide, by decide, by decide, heap_alloc_new _ _⟩
  obtain ⟨b, hbs⟩ : ∃ b, w.heap.size = b := ⟨_, rfl⟩
  go_enter Try.func13, Try.ntmps13
  go_wp2_with fail
  rw [hbs] at hB
  have HBS := Lib.hid hbs
  clear hbs
  refine (b_set b 0 0 0 x y _ hB).mono ?_
  rintro e w2 ⟨rfl, h2, hg2⟩
  have hb2 := below_row hb (by rw [HBS.out]; exact Nat.le_refl _) hg2 hb.size
  have c0 := cellL h2.2.2.2 0 _ rfl
  have hg := Lib.hid h2.2.2.2
  have hx := h2.1
  have hy := h2.2.1
  obtain ⟨sx, hsx⟩ : ∃ sx, bnd x = sx := ⟨_, rfl⟩
  rw [hsx] at c0 hg hx
  have HSX := Lib.hid hsx
  have HX := Lib.hid hx
  have HY := Lib.hid hy
  clear h2 hB hb hg2 hsx hx hy
  go_wp2_with (with_reducible refine wpList_store_in rfl 3 (.tmp 18) (.tmp 16) rfl (by kernel_rfl) b 2 rfl .i64 (sx : Int) rfl _ _ hg.out (by simp) ?_; intro w3 HG3 hg3)
  go_ret
  rw [HSX.out, HBS.out]
  rw [HBS.out] at hb2
  exact ⟨rfl, ⟨HX.out, HY.out, Nat.le_refl _, HG3.out⟩, below_row hb2 (Nat.le_refl _) hg3 (by rw [← HBS.out]; exact hb2.size)⟩

end Go.Proofs.Ytancebpkiioaiaa.W
