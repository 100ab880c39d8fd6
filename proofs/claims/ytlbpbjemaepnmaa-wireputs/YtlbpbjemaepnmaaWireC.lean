/- Contracts of wire.Read and of a Reader's calls. -/
import Derived.Test.YtlbpbjemaepnmaaWireB
import Derived.Deep.QuietTactic
import Derived.BigQuiet
namespace Go.Proofs.Ytlbpbjemaepnmaa.W
open Go.RowKit

/-- A reader of bytes, where it stands, and its error. -/
def Rd (w : World) (r : Nat) (bs : List Nat) (a er : Nat) : Prop :=
  ∃ A c, w.heap[r]? = some (.cells #[.slice A bs.length c, .int .i64 (a : Int), .int .i64 (er : Int)] 46 (0, 0)) ∧ Lies w r A (bs.map bv) ∧ bs.length ≤ c ∧ a ≤ bs.length ∧ bs.length ≤ 1000000000 ∧ (∀ x ∈ bs, x < 256)
def NewRd (w : World) (bs : List Nat) (e : Ending) (w' : World) : Prop :=
  ∃ r, e = .returned (.pointer (some ⟨r, 0, none⟩)) ∧ w.heap.size ≤ r ∧ Rd w' r bs 0 0 ∧ Below w.heap.size w w'

theorem frozen_of_row (w : World) (g j : Nat) (cs : Array Value) (t : TypeId) (hg : w.heap[g]? = some (.cells cs t (0, 0))) : w.frozen? ⟨g, j, none⟩ = false := by
  simp [World.frozen?, hg]
theorem set_row {w : World} {g : Nat} {cs : Array Value} {t : TypeId} (hg : w.heap[g]? = some (.cells cs t (0, 0))) (i : Nat) (u : Value) :
    (w.setCell ⟨g, i, none⟩ u).heap[g]? = some (.cells (cs.setIfInBounds i u) t (0, 0)) := by
  simp [World.setCell, Array.getElem?_modify, hg]
theorem lt_of_row {w : World} {g : Nat} {o : Obj} (hg : w.heap[g]? = some o) : g < w.heap.size := by
  rcases Nat.lt_or_ge g w.heap.size with hl | hl
  · exact hl
  · rw [Array.getElem?_eq_none hl] at hg; cases hg
theorem Rd.lt {w : World} {r : Nat} {bs : List Nat} {a er : Nat} (h : Rd w r bs a er) : r < w.heap.size := by
  obtain ⟨A, c, h, _⟩ := h; exact lt_of_row h
theorem Rd.keep {w w' : World} {r : Nat} {bs : List Nat} {a er B : Nat} (h : Rd w r bs a er) (hb : Below B w w') (hr : r < B) : Rd w' r bs a er := by
  obtain ⟨A, c, h1, h2, h3⟩ := h
  exact ⟨A, c, by rw [hb.block r hr]; exact h1, h2.below hb (by omega), h3⟩
theorem Rd.drewN {w : World} {r : Nat} {bs : List Nat} {a er : Nat} (h : Rd w r bs a er) (n : Nat) : Rd (w.drewN n) r bs a er := h
theorem grown_set (w : World) (n r j : Nat) (v : Value) : w.grownBy ((w.drewN n).setCell ⟨r, j, none⟩ v) (some r) :=
  ⟨rfl, rfl, rfl, by simp [World.setCell], fun k _ hr => Below.heap_setCell (w.drewN n) _ _ _ (by simpa using hr)⟩
theorem grown_drewN (w : World) (n : Nat) (row : Option Nat) : w.grownBy (w.drewN n) row := ⟨rfl, rfl, rfl, Nat.le_refl _, fun _ _ _ => rfl⟩
theorem lies_set {w : World} {r : Nat} {A : Option Addr} {vs : List Value} (h : Lies w r A vs) (n j : Nat) (v : Value) : Lies ((w.drewN n).setCell ⟨r, j, none⟩ v) r A vs :=
  h.keep fun b hb => Below.heap_setCell (w.drewN n) _ _ _ (by simp; omega)

set_option maxRecDepth 100000 in
set_option maxHeartbeats 800000 in
theorem read_any (A : Option Addr) (k c : Nat) (bs : List Nat) (w : World) (hk : k = bs.length) (hA : Lies w w.heap.size A (bs.map bv)) (hb : ∀ x ∈ bs, x < 256) (hl : k ≤ 1000000000) :
    Calls Try.prog 13 #[.slice A k c] w (NewRd w bs) := by
  obtain ⟨i0, hi, hz0, hz1, hz2⟩ := info_parts infoB
  have HK := Lib.hid hk
  have HB := Lib.hid hb
  clear hk hb
  go_enter Try.func13, Try.ntmps13
  go_wp2_with (first
    | (at_make; refine wpList_make_row rfl (.tmp 5) (.tmp 5) 23 rfl 5 i0 (.int .u8 0) Try.underlying23 hi hz0 hz1 rfl _ _ (k : Int) (k : Int) k k rfl rfl (by omega) (by omega) (by omega) (by rw [hz2]; omega) (by omega) ?_; intro w1 HG hg1 hs1; have HS := Lib.hid hs1; clear hs1)
    | (with_reducible refine wpList_copy_new rfl (.tmp 7) (.tmp 8) 23 23 rfl 5 Try.underlying23 i0 hi hz1 w.heap.size k k A c (bs.map bv) (.int .u8 0) w.heap.size w.heap.size w rfl rfl HG (by simp [HK.out]) (by omega) (by omega) (hA.below (grown_below hg1) (Nat.le_refl _)) (ones_u8 _) (grown_below hg1) (Nat.le_refl _) ?_; intro w2 own2 hb2 hlt2; clear HG hg1 HS))
  go_ret
  refine ⟨w2.heap.size, rfl, by have := hb2.size; omega, ⟨some ⟨w.heap.size, 0, none⟩, k, ?_, ?_, by rw [← HK.out]; omega, by omega, by rw [← HK.out]; exact hl, HB.out⟩, hb2.alloc hb2.size _⟩
  · rw [heap_alloc_new, ← HK.out]; rfl
  · exact (lies_own own2).keep fun b hb => Below.heap_alloc _ _ _ hb

theorem quiet_eq {P : Program} {f : FuncId} {args : Array Value} {w : World} {v : Value} (h : Calls P f args w fun e w' => e = .returned v ∧ w = w') :
    Calls P f args w fun e w' => e = .returned v ∧ w' = w := h.mono fun _ _ ⟨he, hw⟩ => ⟨he, hw.symm⟩

set_option maxRecDepth 100000 in
set_option maxHeartbeats 800000 in
theorem err_any (r a er : Nat) (bs : List Nat) (w : World) (h : Rd w r bs a er) :
    Calls Try.prog 16 #[.pointer (some ⟨r, 0, none⟩)] w fun e w' => e = .returned (.int .i64 (er : Int)) ∧ w = w' := by
  obtain ⟨A, c, h1, _⟩ := h
  have h2 : w.cell? ⟨r, 2, none⟩ = some (.int .i64 (er : Int)) := cell_of_row w r 2 _ _ _ h1
  have H1 := Lib.hid h1
  clear h1
  go_enter Try.func16, Try.ntmps16
  go_wp2
  go_ret
  exact ⟨rfl, rfl⟩
set_option maxRecDepth 100000 in
set_option maxHeartbeats 800000 in
theorem at_any (r a er : Nat) (bs : List Nat) (w : World) (h : Rd w r bs a er) :
    Calls Try.prog 17 #[.pointer (some ⟨r, 0, none⟩)] w fun e w' => e = .returned (.int .i64 (a : Int)) ∧ w = w' := by
  obtain ⟨A, c, h1, _⟩ := h
  have h2 : w.cell? ⟨r, 1, none⟩ = some (.int .i64 (a : Int)) := cell_of_row w r 1 _ _ _ h1
  have H1 := Lib.hid h1
  clear h1
  go_enter Try.func17, Try.ntmps17
  go_wp2
  go_ret
  exact ⟨rfl, rfl⟩

/-- Whether there are bytes left, and no error. -/
def moreB (bs : List Nat) (a er : Nat) : Bool := decide (er = 0 ∧ a < bs.length)
theorem more_yes {bs : List Nat} {a : Nat} (h : a < bs.length) : moreB bs a 0 = true := by unfold moreB; simp [h]
theorem more_end {bs : List Nat} {a er : Nat} (h : bs.length ≤ a) : moreB bs a er = false := by unfold moreB; simp; omega
theorem more_err {bs : List Nat} {a er : Nat} (h : er ≠ 0) : moreB bs a er = false := by unfold moreB; simp [h]
theorem ret_bool {a b : Bool} (h : a = b) : Ending.returned (.bool a) = .returned (.bool b) := by rw [h]

set_option maxRecDepth 100000 in
set_option maxHeartbeats 800000 in
theorem more_any (r a er : Nat) (bs : List Nat) (w : World) (h : Rd w r bs a er) :
    Calls Try.prog 14 #[.pointer (some ⟨r, 0, none⟩)] w fun e w' => e = .returned (.bool (moreB bs a er)) ∧ ∃ n, w' = w.drewN n := by
  obtain ⟨A, c, h1, _, _, _, hl, _⟩ := h
  obtain ⟨k, hk⟩ : ∃ k, bs.length = k := ⟨_, rfl⟩
  rw [hk] at h1 hl
  have HK := Lib.hid hk
  clear hk
  have h0 : w.cell? ⟨r, 0, none⟩ = some (.slice A k c) := cell_of_row w r 0 _ _ _ h1
  have h2 : w.cell? ⟨r, 1, none⟩ = some (.int .i64 (a : Int)) := cell_of_row w r 1 _ _ _ h1
  have h3 : w.cell? ⟨r, 2, none⟩ = some (.int .i64 (er : Int)) := cell_of_row w r 2 _ _ _ h1
  have H1 := Lib.hid h1
  clear h1
  by_cases he : er = 0
  · subst he
    go_enter Try.func14, Try.ntmps14
    go_wp2
    go_quiet (fail)
    go_wp2
    go_ret
    refine ⟨ret_bool ?_, _, rfl⟩
    by_cases ha : a < k
    · rw [more_yes (by rw [HK.out]; exact ha)]; simpa using ha
    · rw [more_end (by rw [HK.out]; omega)]; simpa using ha
  · have hd : ((er : Int) == 0) = false := by simp; omega
    go_enter Try.func14, Try.ntmps14
    go_wp2
    go_quiet (fail)
    go_wp2
    go_ret
    exact ⟨ret_bool (by rw [more_err he]), _, rfl⟩

end Go.Proofs.Ytlbpbjemaepnmaa.W
