/- Contracts of wire.Read and of a Reader's calls. -/
import Derived.Test.YtkfhgdnlieaedaaWireB
import Derived.Test.YtkfhgdnlieaedaaBlk
import Derived.Deep.QuietTactic
import Derived.BigQuiet
namespace Go.Proofs.Ytkfhgdnlieaedaa.W
open Go.RowKit

/-- A reader of bytes, where it stands, and its error. -/
def Rd (w : World) (r : Nat) (bs : List Nat) (a er : Nat) : Prop :=
  ∃ A c, w.heap[r]? = some (.cells #[.slice A bs.length c, .int .i64 (a : Int), .int .i64 (er : Int)] 59 (0, 0)) ∧ Lies w r A (bs.map bv) ∧ bs.length ≤ c ∧ a ≤ bs.length ∧ bs.length ≤ 1000000000 ∧ (∀ x ∈ bs, x < 256)
def NewRd (w : World) (bs : List Nat) (e : Ending) (w' : World) : Prop :=
  ∃ r, e = .returned (.pointer (some ⟨r, 0, none⟩)) ∧ w.heap.size ≤ r ∧ Rd w' r bs 0 0 ∧ Below w.heap.size w w'

theorem Rd.lt {w : World} {r : Nat} {bs : List Nat} {a er : Nat} (h : Rd w r bs a er) : r < w.heap.size := by
  obtain ⟨A, c, h, _⟩ := h; exact lt_of_row h
theorem Rd.keep {w w' : World} {r : Nat} {bs : List Nat} {a er B : Nat} (h : Rd w r bs a er) (hb : Below B w w') (hr : r < B) : Rd w' r bs a er := by
  obtain ⟨A, c, h1, h2, h3⟩ := h
  exact ⟨A, c, by rw [hb.block r hr]; exact h1, h2.below hb (by omega), h3⟩
theorem Rd.drewN {w : World} {r : Nat} {bs : List Nat} {a er : Nat} (h : Rd w r bs a er) (n : Nat) : Rd (w.drewN n) r bs a er := h
theorem lies_set {w : World} {r : Nat} {A : Option Addr} {vs : List Value} (h : Lies w r A vs) (n j : Nat) (v : Value) : Lies ((w.drewN n).setCell ⟨r, j, none⟩ v) r A vs :=
  h.keep fun b hb => Below.heap_setCell (w.drewN n) _ _ _ (by simp; omega)

set_option maxRecDepth 100000 in
set_option maxHeartbeats 800000 in
theorem read_any (A : Option Addr) (k c : Nat) (bs : List Nat) (w : World) (hk : k = bs.length) (hA : Lies w w.heap.size A (bs.map bv)) (hb : ∀ x ∈ bs, x < 256) (hl : k ≤ 1000000000) :
    Calls Try.prog 22 #[.slice A k c] w (NewRd w bs) := by
  obtain ⟨i0, hi, hz0, hz1, hz2⟩ := info_parts infoB
  have HK := Lib.hid hk
  have HB := Lib.hid hb
  clear hk hb
  go_enter Try.func22, Try.ntmps22
  go_wp2_with (first
    | (at_make; refine wpList_make_row rfl (.tmp 5) (.tmp 5) 24 rfl 5 i0 (.int .u8 0) Try.underlying24 hi hz0 hz1 rfl _ _ (k : Int) (k : Int) k k rfl rfl (by omega) (by omega) (by omega) (by rw [hz2]; omega) (by omega) ?_; intro w1 HG hg1 hs1; have HS := Lib.hid hs1; clear hs1)
    | (with_reducible refine wpList_copy_new rfl (.tmp 7) (.tmp 8) 24 24 rfl 5 Try.underlying24 i0 hi hz1 w.heap.size k k A c (bs.map bv) (.int .u8 0) w.heap.size w.heap.size w rfl rfl HG (by simp [HK.out]) (by omega) (by omega) (hA.below (grown_below hg1) (Nat.le_refl _)) (ones_u8 _) (grown_below hg1) (Nat.le_refl _) ?_; intro w2 own2 hb2 hlt2; clear HG hg1 HS))
  go_ret
  refine ⟨w2.heap.size, rfl, by have := hb2.size; omega, ⟨some ⟨w.heap.size, 0, none⟩, k, ?_, ?_, by rw [← HK.out]; omega, by omega, by rw [← HK.out]; exact hl, HB.out⟩, hb2.alloc hb2.size _⟩
  · rw [heap_alloc_new, ← HK.out]; rfl
  · exact (lies_own own2).keep fun b hb => Below.heap_alloc _ _ _ hb


set_option maxRecDepth 100000 in
set_option maxHeartbeats 800000 in
theorem err_any (r a er : Nat) (bs : List Nat) (w : World) (h : Rd w r bs a er) :
    Calls Try.prog 26 #[.pointer (some ⟨r, 0, none⟩)] w fun e w' => e = .returned (.int .i64 (er : Int)) ∧ w = w' := by
  obtain ⟨A, c, h1, _⟩ := h
  have h2 : w.cell? ⟨r, 2, none⟩ = some (.int .i64 (er : Int)) := cell_of_row w r 2 _ _ _ h1
  have H1 := Lib.hid h1
  clear h1
  go_enter Try.func26, Try.ntmps26
  go_wp2
  go_ret
  exact ⟨rfl, rfl⟩
set_option maxRecDepth 100000 in
set_option maxHeartbeats 800000 in
theorem at_any (r a er : Nat) (bs : List Nat) (w : World) (h : Rd w r bs a er) :
    Calls Try.prog 24 #[.pointer (some ⟨r, 0, none⟩)] w fun e w' => e = .returned (.int .i64 (a : Int)) ∧ w = w' := by
  obtain ⟨A, c, h1, _⟩ := h
  have h2 : w.cell? ⟨r, 1, none⟩ = some (.int .i64 (a : Int)) := cell_of_row w r 1 _ _ _ h1
  have H1 := Lib.hid h1
  clear h1
  go_enter Try.func24, Try.ntmps24
  go_wp2
  go_ret
  exact ⟨rfl, rfl⟩

/-- Whether there are bytes left, and no error. -/
def moreB (bs : List Nat) (a er : Nat) : Bool := decide (er = 0 ∧ a < bs.length)
theorem more_yes {bs : List Nat} {a : Nat} (h : a < bs.length) : moreB bs a 0 = true := by unfold moreB; simp [h]
theorem more_end {bs : List Nat} {a er : Nat} (h : bs.length ≤ a) : moreB bs a er = false := by unfold moreB; simp; omega
theorem more_err {bs : List Nat} {a er : Nat} (h : er ≠ 0) : moreB bs a er = false := by unfold moreB; simp [h]

set_option maxRecDepth 100000 in
set_option maxHeartbeats 800000 in
theorem more_any (r a er : Nat) (bs : List Nat) (w : World) (h : Rd w r bs a er) :
    Calls Try.prog 23 #[.pointer (some ⟨r, 0, none⟩)] w fun e w' => e = .returned (.bool (moreB bs a er)) ∧ ∃ n, w' = w.drewN n := by
  obtain ⟨A, c, h1, _, _, _, hl, _⟩ := h
  obtain ⟨k, hk⟩ : ∃ k, bs.length = k := ⟨_, rfl⟩
  rw [hk] at h1 hl
  have HK := Lib.hid hk
  clear hk
  have h0 : w.cell? ⟨r, 0, none⟩ = some (.slice A k c) := cell_of_row w r 0 _ _ _ h1
  have h2 : w.cell? ⟨r, 1, none⟩ = some (.int .i64 (a : Int)) := cell_of_row w r 1 _ _ _ h1
  have h3 : w.cell? ⟨r, 2, none⟩ = some (.int .i64 (er : Int)) := cell_of_row w r 2 _ _ _ h1
  have H1 := Lib.hid h1
  clear h1
  by_cases he : er = 0
  · subst he
    go_enter Try.func23, Try.ntmps23
    go_wp2
    go_quiet (fail)
    go_wp2
    go_ret
    refine ⟨ret_bool ?_, _, rfl⟩
    by_cases ha : a < k
    · rw [more_yes (by rw [HK.out]; exact ha)]; simpa using ha
    · rw [more_end (by rw [HK.out]; omega)]; simpa using ha
  · have hd : ((er : Int) == 0) = false := by simp; omega
    go_enter Try.func23, Try.ntmps23
    go_wp2
    go_quiet (fail)
    go_wp2
    go_ret
    exact ⟨ret_bool (by rw [more_err he]), _, rfl⟩

end Go.Proofs.Ytkfhgdnlieaedaa.W
