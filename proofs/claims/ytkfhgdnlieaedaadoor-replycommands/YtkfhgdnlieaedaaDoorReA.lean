/- What the listed variables hold; contracts of strconv.Itoa, strings.Cut at a blank, reply.number, the words of errors and of reasons, and what words name. -/
import Derived.Test.YtkfhgdnlieaedaaDoorRows
import Derived.Test.YtkfhgdnlieaedaaDoorShelf
import Derived.Test.YtkfhgdnlieaedaaDoorReM
import Derived.Test.YtkfhgdnlieaedaaDoorMp
import Derived.Lib.SmallJoins
namespace Go.Proofs.YtkfhgdnlieaedaaDoor.W
open Go.RowKit

/-- The variables that a call of strconv comes to. -/
structure Gl (w : World) : Prop where
  tab : Lib.TabIs Tryd.prog w "internal/strconv.uint64pow10" .u64 Lib.pow10Tab
  syn : ∃ ev, w.cell? ⟨2, 0, none⟩ = some ev ∧ (ev = .nilIface ∨ ∃ te pe, ev = .iface te pe)
  rng : ∃ ev, w.cell? ⟨3, 0, none⟩ = some ev ∧ (ev = .nilIface ∨ ∃ te pe, ev = .iface te pe)
theorem gTab : Tryd.prog.globalNamed "internal/strconv.uint64pow10" = some 0 := by kernel_rfl
theorem Gl.below {w w' : World} (h : Gl w) (hb : Below w.heap.size w w') : Gl w' := by
  obtain ⟨h1, ⟨e1, h2, h3⟩, ⟨e2, h4, h5⟩⟩ := h
  exact ⟨Joins.tab_stays gTab h1 hb (Nat.le_refl _), ⟨e1, by rw [hb.cell (cell_lt h2)]; exact h2, h3⟩, ⟨e2, by rw [hb.cell (cell_lt h4)]; exact h4, h5⟩⟩
abbrev sv (l : List UInt8) : Value := .string (bst l)
theorem grow_below' (w : World) (k : Nat) (os : Array Obj) : Below w.heap.size w (Sort.grow (w.drewN k) os) :=
  ⟨rfl, rfl, rfl, by simp [Sort.grow, World.drewN], fun j hj => by show (w.heap ++ os)[j]? = _; rw [Array.getElem?_append_left hj]⟩

theorem itoa_any (n : Int) (w : World) (h0 : -9223372036854775808 ≤ n) (h1 : n ≤ 9223372036854775807) (hG : Gl w) :
    Calls Tryd.prog 12 #[.int .i64 n] w fun e w' => e = .returned (sv (Lib.itoa n)) ∧ Below w.heap.size w w' :=
  (Tryd.strconv_Itoa n h0 h1 w hG.tab).mono fun e w' ⟨he, k, os, hw⟩ => ⟨he, by rw [hw]; exact grow_below' w k os⟩

set_option maxRecDepth 100000 in
set_option maxHeartbeats 1600000 in
theorem number_any (l : List UInt8) (w : World) (hl : l.length ≤ 281474976710656) (hG : Gl w) : Calls Tryd.prog 21 #[.string (bst l)] w fun e w' => e = .returned (.int .i64 (numF l)) ∧ Below w.heap.size w w' := by
  have hsz : (bst l).size = l.length := by simp [bst, ByteArray.size]
  cases ha : Lib.atoiAll l with
  | ok v =>
    have hn : numF l = v := by unfold numF; rw [ha]
    rw [hn]
    have hc := Tryd.strconv_Atoi_ok (bst l) (by rw [hsz]; omega) v ha
    have HC := Lib.hid hc
    clear hc hn ha
    go_enter Tryd.func21, Tryd.ntmps21
    go_wp2_with fail
    refine (HC.out w).mono ?_
    rintro e w' ⟨rfl, hw⟩
    have hb : Below w.heap.size w w' := by
      rcases hw with rfl | ⟨t, rfl⟩
      · exact Below.refl _ _
      · exact Joins.below_bytesWorld _ _ _ _ (Nat.le_refl _)
    go_wp2_with fail
    go_ret
    exact ⟨rfl, hb⟩
  | «syntax» =>
    have hn : numF l = 0 := by unfold numF; rw [ha]
    rw [hn]
    obtain ⟨ev, h2, h3⟩ := hG.syn
    have hc := Tryd.strconv_Atoi_syntax (bst l) (by rw [hsz]; omega) ha ev w h2 h3
    have HC := Lib.hid hc
    clear hc hn ha
    go_enter Tryd.func21, Tryd.ntmps21
    go_wp2_with fail
    refine HC.out.mono ?_
    rintro e w' ⟨N, rfl, hN, hcell, hb⟩
    go_wp2_with fail
    go_ret
    exact ⟨rfl, hb⟩
  | range =>
    have hn : numF l = 0 := by unfold numF; rw [ha]
    rw [hn]
    obtain ⟨ev, h2, h3⟩ := hG.rng
    have hc := Tryd.strconv_Atoi_range (bst l) (by rw [hsz]; omega) ha ev w h2 h3
    have HC := Lib.hid hc
    clear hc hn ha
    go_enter Tryd.func21, Tryd.ntmps21
    go_wp2_with fail
    refine HC.out.mono ?_
    rintro e w' ⟨N, rfl, hN, hcell, hb⟩
    go_wp2_with fail
    go_ret
    exact ⟨rfl, hb⟩

set_option maxRecDepth 100000 in
set_option maxHeartbeats 1600000 in
theorem why_any (y : Int) (w : World) : Calls Tryd.prog 15 #[.int .i64 y] w fun e w' => e = .returned (sv (wY y)) ∧ w = w' := by
  by_cases h1 : y = 1
  · subst h1
    go_enter Tryd.func15, Tryd.ntmps15
    go_wp2
    go_ret
    exact ⟨rfl, rfl⟩
  by_cases h2 : y = 2
  · subst h2
    go_enter Tryd.func15, Tryd.ntmps15
    go_wp2
    go_ret
    exact ⟨rfl, rfl⟩
  by_cases h3 : y = 3
  · subst h3
    go_enter Tryd.func15, Tryd.ntmps15
    go_wp2
    go_ret
    exact ⟨rfl, rfl⟩
  by_cases h4 : y = 4
  · subst h4
    go_enter Tryd.func15, Tryd.ntmps15
    go_wp2
    go_ret
    exact ⟨rfl, rfl⟩
  have hx : wY y = [] := by simp [wY, h1, h2, h3, h4]
  rw [hx]
  have d1 : (y == 1) = false := by simpa using h1
  have d2 : (y == 2) = false := by simpa using h2
  have d3 : (y == 3) = false := by simpa using h3
  have d4 : (y == 4) = false := by simpa using h4
  clear h1 h2 h3 h4 hx
  go_enter Tryd.func15, Tryd.ntmps15
  go_wp2
  go_ret
  exact ⟨rfl, rfl⟩

set_option maxRecDepth 100000 in
set_option maxHeartbeats 1600000 in
theorem err_word (x : Int) (w : World) : Calls Tryd.prog 14 #[.int .i64 x] w fun e w' => e = .returned (sv (wE x)) ∧ Below w.heap.size w w' := by
  have b0 : Below w.heap.size w w := Below.refl _ _
  by_cases hr : 0 ≤ x ∧ x ≤ 6
  · have : x = 0 ∨ x = 1 ∨ x = 2 ∨ x = 3 ∨ x = 4 ∨ x = 5 ∨ x = 6 := by omega
    clear hr
    rcases this with rfl | rfl | rfl | rfl | rfl | rfl | rfl
    all_goals
      go_enter Tryd.func14, Tryd.ntmps14
      go_wp2
      go_ret
      exact ⟨rfl, b0.alloc (Nat.le_refl _) _⟩
  · have hx : wE x = [] := by unfold wE; rw [if_neg (by omega), if_neg (by omega), if_neg (by omega), if_neg (by omega), if_neg (by omega), if_neg (by omega), if_neg (by omega)]
    rw [hx]
    clear hx
    by_cases hlo : x < 0
    · clear hr
      go_enter Tryd.func14, Tryd.ntmps14
      go_wp2
      go_ret
      exact ⟨rfl, b0.alloc (Nat.le_refl _) _⟩
    · have hhi : 6 < x := by omega
      have hlo' : decide (x < 0) = false := by simp; omega
      clear hr hlo
      go_enter Tryd.func14, Tryd.ntmps14
      go_wp2
      go_ret
      exact ⟨rfl, b0.alloc (Nat.le_refl _) _⟩

end Go.Proofs.YtkfhgdnlieaedaaDoor.W
