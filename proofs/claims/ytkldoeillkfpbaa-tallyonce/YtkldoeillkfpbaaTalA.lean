/- Contracts of tally.Count. -/
import Derived.Test.YtkldoeillkfpbaaRows
import Derived.Test.YtkldoeillkfpbaaNumZ
import Derived.Test.YtkldoeillkfpbaaBlk
import Derived.Test.YtkldoeillkfpbaaMp
import Derived.Laws.LoneSync
import Derived.Laws.Pointers
import Derived.Laws.NewBlocks
import Derived.BigRegion
import Derived.Deep.LoopGhost
namespace Go.Proofs.Ytkldoeillkfpbaa.W
open Go.RowKit

/-- A Count's block. -/
def Cn (w : World) (b : Nat) (n : Int) : Prop := I64 n ∧ w.heap[b]? = some (.cells [Value.int .i64 n].toArray 56 (0, 0))
theorem Cn.lt {w : World} {b : Nat} {n : Int} (h : Cn w b n) : b < w.heap.size := lt_of_row h.2
theorem Cn.cell {w : World} {b : Nat} {n : Int} (h : Cn w b n) : w.cell? ⟨b, 0, none⟩ = some (.int .i64 n) := cellL h.2 0 _ rfl
theorem Cn.keep {w w' : World} {b B : Nat} {n : Int} (h : Cn w b n) (hb : Below B w w') (hr : b < B) : Cn w' b n := ⟨h.1, by rw [hb.block b hr]; exact h.2⟩
theorem Cn.off {w w' : World} {b q : Nat} {n : Int} (h : Cn w b n) (hb : w.grownBy w' (some q)) (hr : b ≠ q) : Cn w' b n := ⟨h.1, by rw [hb.block b h.lt (by simpa using hr)]; exact h.2⟩
theorem Cn.set {w : World} {b : Nat} {n : Int} (h : Cn w b n) {m : Int} (hm : I64 m) : Cn (w.setCell ⟨b, 0, none⟩ (.int .i64 m)) b m ∧ w.grownBy (w.setCell ⟨b, 0, none⟩ (.int .i64 m)) (some b) := by
  exact ⟨⟨hm, set_rowL h.2 0 (.int .i64 m)⟩, grown_set w 0 b 0 _⟩

theorem atl_any (b : Nat) (n : Int) (w : World) (h : Cn w b n) :
    Calls Try.prog 40 #[.pointer (some ⟨b, 0, none⟩)] w fun e w' => e = .returned (.int .i64 n) ∧ w = w' := by
  have hl := run_call_load (P := Try.prog) Try.func48 (by kernel_rfl) (by kernel_rfl) (by kernel_rfl) .i64 (by kernel_rfl) h.cell
  clear h
  go_enter Try.func40, Try.ntmps40
  go_wp2
  go_ret
  exact ⟨rfl, rfl⟩

theorem cas_any (b : Nat) (n m : Int) (w : World) (h : Cn w b n) (hm : I64 m) :
    Calls Try.prog 47 #[.pointer (some ⟨b, 0, none⟩), .int .i64 n, .int .i64 m] w fun e w' => e = .returned (.bool true) ∧ Cn w' b m ∧ w.grownBy w' (some b) := by
  have hcas := run_call_cas_hit (P := Try.prog) Try.func55 (by kernel_rfl) (by kernel_rfl) (by kernel_rfl) .i64 (by kernel_rfl) (y := m) h.cell (frozen_of_row _ _ _ _ _ h.2)
  have HS := Lib.hid (h.set hm)
  clear h
  go_enter Try.func47, Try.ntmps47
  go_wp2
  go_ret
  exact ⟨rfl, HS.out.1, HS.out.2⟩

theorem tl_load (b : Nat) (n : Int) (w : World) (h : Cn w b n) :
    Calls Try.prog 24 #[.pointer (some ⟨b, 0, none⟩)] w fun e w' => e = .returned (.int .i64 n) ∧ w = w' := by
  go_enter Try.func24, Try.ntmps24
  go_wp2_with fail
  refine (atl_any b n _ h).mono ?_
  rintro e w1 ⟨rfl, rfl⟩
  clear h
  go_wp2_with fail
  go_ret
  exact ⟨rfl, rfl⟩

theorem tl_full (b : Nat) (n : Int) (w : World) (h : Cn w b n) :
    Calls Try.prog 25 #[.pointer (some ⟨b, 0, none⟩)] w fun e w' => e = .returned (.bool (n == 9223372036854775807)) ∧ w = w' := by
  go_enter Try.func25, Try.ntmps25
  go_wp2_with fail
  refine (tl_load b n _ h).mono ?_
  rintro e w1 ⟨rfl, rfl⟩
  clear h
  go_wp2_with fail
  go_ret
  exact ⟨rfl, rfl⟩

theorem addc_any (q : Nat) (m n : Int) (w : World) (hm : I64 m) (hn : I64 n) (hq : w.cell? ⟨q, 0, none⟩ = some (.int .i64 n)) :
    Calls Try.prog 39 #[.int .i64 m, .pointer (some ⟨q, 0, none⟩)] w fun e w' => e = .returned (.int .i64 (sat (m + n))) ∧ w = w' := by
  go_enter Try.func39, Try.ntmps39
  go_wp2_with fail
  refine (add_any m n hm hn _).mono ?_
  rintro e w1 ⟨rfl, rfl⟩
  go_wp2_with fail
  go_ret
  exact ⟨rfl, rfl⟩

theorem mostc_any (q : Nat) (m n : Int) (w : World) (_hm : I64 m) (_hn : I64 n) (hq : w.cell? ⟨q, 0, none⟩ = some (.int .i64 n)) :
    Calls Try.prog 38 #[.int .i64 m, .pointer (some ⟨q, 0, none⟩)] w fun e w' => e = .returned (.int .i64 (max m n)) ∧ w = w' := by
  go_enter Try.func38, Try.ntmps38
  go_wp2_with (with_reducible refine wpList_max_to rfl (.tmp 4) (.tmp 5) 2 2 rfl .i64 .i64 m n (max m n) rfl rfl rfl ?_)
  go_ret
  exact ⟨rfl, rfl⟩
theorem max_i64 {m n : Int} (hm : I64 m) (hn : I64 n) : I64 (max m n) := by obtain ⟨a, b⟩ := hm; obtain ⟨c, d⟩ := hn; unfold I64; omega

set_option maxRecDepth 100000 in
set_option maxHeartbeats 800000 in
theorem turn_add (b q : Nat) (m n : Int) (w : World) (h : Cn w b m) (hn : I64 n) (hq : w.cell? ⟨q, 0, none⟩ = some (.int .i64 n)) :
    Calls Try.prog 37 #[.pointer (some ⟨b, 0, none⟩), .func (.func 39) #[] #[.pointer (some ⟨q, 0, none⟩)]] w fun e w' => e = .returned (.int .i64 (sat (m + n))) ∧ Cn w' b (sat (m + n)) ∧ w.grownBy w' (some b) := by
  obtain ⟨r, hr⟩ : ∃ r, sat (m + n) = r := ⟨_, rfl⟩
  have hri : I64 r := by rw [← hr]; exact sat_i64 _
  have hca := addc_any q m n w h.1 hn hq
  rw [hr] at hca ⊢
  clear hr hq
  go_enter Try.func37, Try.ntmps37
  go_wp2_with fail
  go_loopg [] 0 (fun gk wr => w = wr)
  case atStart => rfl
  case round =>
    obtain rfl := hrel
    go_wp2_with fail
    refine (atl_any b m _ h).mono ?_
    rintro e w1 ⟨rfl, rfl⟩
    go_wp2_with fail
    refine hca.mono ?_
    rintro e w1 ⟨rfl, rfl⟩
    clear hca
    go_wp2_with fail
    refine (cas_any b m r _ h hri).mono ?_
    rintro e w1 ⟨rfl, h1, g1⟩
    clear h
    go_wp2_with fail
    go_ret
    exact ⟨rfl, h1, g1⟩

set_option maxRecDepth 100000 in
set_option maxHeartbeats 800000 in
theorem tl_add (b : Nat) (m n : Int) (w : World) (h : Cn w b m) (hn : I64 n) :
    Calls Try.prog 22 #[.pointer (some ⟨b, 0, none⟩), .int .i64 n] w fun e w' => e = .returned (.int .i64 (sat (m + n))) ∧ Cn w' b (sat (m + n)) ∧ w.grownBy w' (some b) := by
  have hq := heap_alloc_new w (.cells #[.int .i64 n] 2)
  have hg := World.grownBy_alloc w (.cells #[.int .i64 n] 2) (some b)
  have h1 : Cn (w.alloc (.cells #[.int .i64 n] 2)) b m := ⟨h.1, by rw [(World.grownBy_alloc w (.cells #[.int .i64 n] 2) none).block b h.lt (by simp)]; exact h.2⟩
  have ht := turn_add b w.heap.size m n (w.alloc (.cells #[.int .i64 n] 2)) h1 hn (cell_of_row _ _ 0 _ _ _ hq)
  obtain ⟨r, hr⟩ : ∃ r, sat (m + n) = r := ⟨_, rfl⟩
  rw [hr] at ht ⊢
  clear hr h h1 hq
  go_enter Try.func22, Try.ntmps22
  go_wp2_with fail
  refine ht.mono ?_
  rintro e w1 ⟨rfl, h2, g2⟩
  clear ht
  go_wp2_with fail
  go_ret
  exact ⟨rfl, h2, grown_trans hg g2⟩

set_option maxRecDepth 100000 in
set_option maxHeartbeats 800000 in
theorem turn_most (b q : Nat) (m n : Int) (w : World) (h : Cn w b m) (hn : I64 n) (hq : w.cell? ⟨q, 0, none⟩ = some (.int .i64 n)) :
    Calls Try.prog 37 #[.pointer (some ⟨b, 0, none⟩), .func (.func 38) #[] #[.pointer (some ⟨q, 0, none⟩)]] w fun e w' => e = .returned (.int .i64 (max m n)) ∧ Cn w' b (max m n) ∧ w.grownBy w' (some b) := by
  obtain ⟨r, hr⟩ : ∃ r, max m n = r := ⟨_, rfl⟩
  have hri : I64 r := by rw [← hr]; exact max_i64 h.1 hn
  have hca := mostc_any q m n w h.1 hn hq
  rw [hr] at hca ⊢
  clear hr hq
  go_enter Try.func37, Try.ntmps37
  go_wp2_with fail
  go_loopg [] 0 (fun gk wr => w = wr)
  case atStart => rfl
  case round =>
    obtain rfl := hrel
    go_wp2_with fail
    refine (atl_any b m _ h).mono ?_
    rintro e w1 ⟨rfl, rfl⟩
    go_wp2_with fail
    refine hca.mono ?_
    rintro e w1 ⟨rfl, rfl⟩
    clear hca
    go_wp2_with fail
    refine (cas_any b m r _ h hri).mono ?_
    rintro e w1 ⟨rfl, h1, g1⟩
    clear h
    go_wp2_with fail
    go_ret
    exact ⟨rfl, h1, g1⟩

set_option maxRecDepth 100000 in
set_option maxHeartbeats 800000 in
theorem tl_most (b : Nat) (m n : Int) (w : World) (h : Cn w b m) (hn : I64 n) :
    Calls Try.prog 21 #[.pointer (some ⟨b, 0, none⟩), .int .i64 n] w fun e w' => e = .returned (.int .i64 (max m n)) ∧ Cn w' b (max m n) ∧ w.grownBy w' (some b) := by
  have hq := heap_alloc_new w (.cells #[.int .i64 n] 2)
  have hg := World.grownBy_alloc w (.cells #[.int .i64 n] 2) (some b)
  have h1 : Cn (w.alloc (.cells #[.int .i64 n] 2)) b m := ⟨h.1, by rw [(World.grownBy_alloc w (.cells #[.int .i64 n] 2) none).block b h.lt (by simp)]; exact h.2⟩
  have ht := turn_most b w.heap.size m n (w.alloc (.cells #[.int .i64 n] 2)) h1 hn (cell_of_row _ _ 0 _ _ _ hq)
  obtain ⟨r, hr⟩ : ∃ r, max m n = r := ⟨_, rfl⟩
  rw [hr] at ht ⊢
  clear hr h h1 hq
  go_enter Try.func21, Try.ntmps21
  go_wp2_with fail
  refine ht.mono ?_
  rintro e w1 ⟨rfl, h2, g2⟩
  clear ht
  go_wp2_with fail
  go_ret
  exact ⟨rfl, h2, grown_trans hg g2⟩

set_option maxRecDepth 100000 in
set_option maxHeartbeats 1600000 in
theorem head15 (w : World) : Calls Try.prog 20 #[] w fun e w' => e = .returned (.bool true) ∧ Below w.heap.size w w' := by
  go_enter Try.func20, Try.ntmps20
  have hq := heap_alloc_new w (.cells #[.int .i64 0] 56)
  have b1 : Below w.heap.size w (w.alloc (.cells #[.int .i64 0] 56)) := (Below.refl _ _).alloc (Nat.le_refl _) _
  have h1 : Cn (w.alloc (.cells #[.int .i64 0] 56)) w.heap.size 0 := ⟨⟨by decide, by decide⟩, hq⟩
  clear hq
  obtain ⟨b, hb⟩ : ∃ b, w.heap.size = b := ⟨_, rfl⟩
  have hbb : w.heap.size ≤ b := Nat.le_of_eq hb
  go_wp2_with fail
  rw [hb] at h1
  try rw [hb]
  generalize w.alloc (.cells #[.int .i64 0] 56) = w1 at h1 b1 ⊢
  clear hb
  refine (tl_add b 0 3 _ h1 ⟨by decide, by decide⟩).mono ?_
  rintro e w2 ⟨rfl, h2, g2⟩
  have b2 := below_row b1 hbb g2 b1.size
  rw [show sat (0 + 3) = 3 by decide] at h2 ⊢
  go_wp2_with fail
  refine (tl_add b 3 (-5) _ h2 ⟨by decide, by decide⟩).mono ?_
  rintro e w3 ⟨rfl, h3, g3⟩
  have b3 := below_row b2 hbb g3 b2.size
  rw [show sat (3 + -5) = -2 by decide] at h3 ⊢
  go_wp2_with fail
  refine (tl_load b (-2) _ h3).mono ?_
  rintro e w4 ⟨rfl, rfl⟩
  go_wp2_with fail
  go_ret
  exact ⟨rfl, b3⟩

end Go.Proofs.Ytkldoeillkfpbaa.W
