/- An answer's Right. Made by mk_aur.py. -/
import Derived.Test.YtgpookphacdgoaaRows
import Derived.Test.YtgpookphacdgoaaReM
import Derived.Test.YtgpookphacdgoaaMp
import Derived.BigRegion
import Derived.BigQuiet
import Derived.StillTailTactics
import Derived.Deep.LoopGhost
import Derived.Lib.SmallJoins
namespace Go.Proofs.Ytgpookphacdgoaa.W.RA
open Go.RowKit Go.Proofs.Ytgpookphacdgoaa.W

abbrev sv (l : List UInt8) : Value := .string (bst l)

theorem sv_lit (a b : List UInt8) : ((bst a).toList == b) = decide (a = b) := by
  rw [Lib.toList_data, bst_list]
  by_cases h : a = b
  · subst h; simp
  · simp [h]

set_option maxRecDepth 100000 in
set_option maxHeartbeats 1600000 in
theorem why_any (y : Int) (w : World) : Calls Try.prog 23 #[.int .i64 y] w fun e w' => e = .returned (sv (wY y)) ∧ w = w' := by
  by_cases h1 : y = 1
  · subst h1
    go_enter Try.func23, Try.ntmps23
    go_wp2
    go_ret
    exact ⟨rfl, rfl⟩
  by_cases h2 : y = 2
  · subst h2
    go_enter Try.func23, Try.ntmps23
    go_wp2
    go_ret
    exact ⟨rfl, rfl⟩
  by_cases h3 : y = 3
  · subst h3
    go_enter Try.func23, Try.ntmps23
    go_wp2
    go_ret
    exact ⟨rfl, rfl⟩
  by_cases h4 : y = 4
  · subst h4
    go_enter Try.func23, Try.ntmps23
    go_wp2
    go_ret
    exact ⟨rfl, rfl⟩
  have hx : wY y = [] := by simp [wY, h1, h2, h3, h4]
  rw [hx]
  have d1 : (y == 1) = false := by simpa using h1
  have d2 : (y == 2) = false := by simpa using h2
  have d3 : (y == 3) = false := by simpa using h3
  have d4 : (y == 4) = false := by simpa using h4
  clear h1 h2 h3 h4 hx
  go_enter Try.func23, Try.ntmps23
  go_wp2
  go_ret
  exact ⟨rfl, rfl⟩

set_option maxRecDepth 100000 in
set_option maxHeartbeats 1600000 in
theorem err_word (x : Int) (w : World) : Calls Try.prog 22 #[.int .i64 x] w fun e w' => e = .returned (sv (wE x)) ∧ Below w.heap.size w w' := by
  have b0 : Below w.heap.size w w := Below.refl _ _
  by_cases hr : 0 ≤ x ∧ x ≤ 6
  · have : x = 0 ∨ x = 1 ∨ x = 2 ∨ x = 3 ∨ x = 4 ∨ x = 5 ∨ x = 6 := by omega
    clear hr
    rcases this with rfl | rfl | rfl | rfl | rfl | rfl | rfl
    all_goals
      go_enter Try.func22, Try.ntmps22
      go_wp2
      go_ret
      exact ⟨rfl, b0.alloc (Nat.le_refl _) _⟩
  · have hx : wE x = [] := by unfold wE; rw [if_neg (by omega), if_neg (by omega), if_neg (by omega), if_neg (by omega), if_neg (by omega), if_neg (by omega), if_neg (by omega)]
    rw [hx]
    clear hx
    by_cases hlo : x < 0
    · clear hr
      go_enter Try.func22, Try.ntmps22
      go_wp2
      go_ret
      exact ⟨rfl, b0.alloc (Nat.le_refl _) _⟩
    · have hhi : 6 < x := by omega
      have hlo' : decide (x < 0) = false := by simp; omega
      clear hr hlo
      go_enter Try.func22, Try.ntmps22
      go_wp2
      go_ret
      exact ⟨rfl, b0.alloc (Nat.le_refl _) _⟩

theorem an_cells {w : World} {g : Nat} {k b y e : Int} (h : w.heap[g]? = some (.cells #[.int .i64 k, .int .i64 b, .int .i64 y, .int .i64 e] 31 (0, 0))) :
    w.cell? ⟨g, 0, none⟩ = some (.int .i64 k) ∧ w.cell? ⟨g, 1, none⟩ = some (.int .i64 b) ∧ w.cell? ⟨g, 2, none⟩ = some (.int .i64 y) ∧ w.cell? ⟨g, 3, none⟩ = some (.int .i64 e) :=
  ⟨cell_of_row _ _ 0 _ _ _ h, cell_of_row _ _ 1 _ _ _ h, cell_of_row _ _ 2 _ _ _ h, cell_of_row _ _ 3 _ _ _ h⟩
theorem no_of {ok : Bool} {p : Prop} (h : ok = true ↔ p) (n : ¬ p) : ok = false := by cases ok with
  | false => rfl
  | true => exact absurd (h.1 rfl) n

set_option maxRecDepth 100000 in
set_option maxHeartbeats 1600000 in
theorem right0 (b y e : Int) (w : World) (ok : Bool) (h : ok = true ↔ okA ⟨0, b, y, e⟩) :
    Calls Try.prog 12 #[.agg #[.int .i64 0, .int .i64 b, .int .i64 y, .int .i64 e]] w fun e w' => e = .returned (.bool ok) ∧ Below w.heap.size w w' := by
  have b0 : Below w.heap.size w (w.alloc (.cells #[.int .i64 0, .int .i64 b, .int .i64 y, .int .i64 e] 31)) := (Below.refl _ _).alloc (Nat.le_refl _) _
  by_cases zb : b = 0
  · subst zb
    by_cases zy : y = 0
    · subst zy
      by_cases ze : e = 0
      · subst ze
        obtain rfl : ok = true := h.2 (by unfold okA; first | omega | (simp; done) | (simp; omega) | (simp only; omega))
        clear h
        go_enter Try.func12, Try.ntmps12
        go_wp2
        go_ret
        exact ⟨rfl, b0⟩
      · have de : (e == 0) = false := by simpa using ze
        obtain rfl : ok = false := no_of h (by unfold okA; first | omega | (simp; done) | (simp; omega) | (simp only; omega))
        clear h ze
        go_enter Try.func12, Try.ntmps12
        go_wp2
        go_ret
        exact ⟨rfl, b0⟩
    · have dy : (y == 0) = false := by simpa using zy
      obtain rfl : ok = false := no_of h (by unfold okA; first | omega | (simp; done) | (simp; omega) | (simp only; omega))
      clear h zy
      go_enter Try.func12, Try.ntmps12
      go_wp2
      go_ret
      exact ⟨rfl, b0⟩
  · have db : (b == 0) = false := by simpa using zb
    obtain rfl : ok = false := no_of h (by unfold okA; first | omega | (simp; done) | (simp; omega) | (simp only; omega))
    clear h zb
    go_enter Try.func12, Try.ntmps12
    go_wp2
    go_ret
    exact ⟨rfl, b0⟩

set_option maxRecDepth 100000 in
set_option maxHeartbeats 1600000 in
theorem right1 (b y e : Int) (w : World) (ok : Bool) (h : ok = true ↔ okA ⟨1, b, y, e⟩) :
    Calls Try.prog 12 #[.agg #[.int .i64 1, .int .i64 b, .int .i64 y, .int .i64 e]] w fun e w' => e = .returned (.bool ok) ∧ Below w.heap.size w w' := by
  have b0 : Below w.heap.size w (w.alloc (.cells #[.int .i64 1, .int .i64 b, .int .i64 y, .int .i64 e] 31)) := (Below.refl _ _).alloc (Nat.le_refl _) _
  by_cases he0 : e = 0
  · subst he0
    obtain rfl : ok = false := no_of h (by unfold okA; first | omega | (simp; done) | (simp; omega) | (simp only; omega))
    clear h
    go_enter Try.func12, Try.ntmps12
    go_wp2
    go_ret
    exact ⟨rfl, b0⟩
  · have de : (e != 0) = true := by simpa using he0
    by_cases hr : 1 ≤ e ∧ e ≤ 6
    · have hw : ((bst (wE e)).toList == []) = false := by
        rw [sv_lit]
        have : e = 1 ∨ e = 2 ∨ e = 3 ∨ e = 4 ∨ e = 5 ∨ e = 6 := by omega
        rcases this with rfl | rfl | rfl | rfl | rfl | rfl <;> decide
      by_cases zb : b = 0
      · subst zb
        by_cases zy : y = 0
        · subst zy
          obtain rfl : ok = true := h.2 (by unfold okA; first | omega | (simp; done) | (simp; omega) | (simp only; omega))
          clear h he0 hr
          go_enter Try.func12, Try.ntmps12
          go_wp2_with fail
          have hN := heap_alloc_new w (.cells #[.int .i64 1, .int .i64 0, .int .i64 0, .int .i64 e] 31)
          generalize w.alloc (.cells #[.int .i64 1, .int .i64 0, .int .i64 0, .int .i64 e] 31) = w1 at b0 hN ⊢
          refine (err_word e w1).mono ?_
          rintro x w2 ⟨rfl, b2⟩
          have hN2 := (Only.of_below (S := fun _ => False) b2).blk (fun q => q) hN
          have b02 : Below w.heap.size w w2 := b0.trans (b2.mono b0.size)
          obtain ⟨t0, t1, t2, t3⟩ := an_cells hN2
          clear hN2 hN b0
          go_wp2_with fail
          go_ret
          exact ⟨rfl, b02⟩
        · have dy : (y == 0) = false := by simpa using zy
          obtain rfl : ok = false := no_of h (by unfold okA; first | omega | (simp; done) | (simp; omega) | (simp only; omega))
          clear h zy he0 hr
          go_enter Try.func12, Try.ntmps12
          go_wp2_with fail
          have hN := heap_alloc_new w (.cells #[.int .i64 1, .int .i64 0, .int .i64 y, .int .i64 e] 31)
          generalize w.alloc (.cells #[.int .i64 1, .int .i64 0, .int .i64 y, .int .i64 e] 31) = w1 at b0 hN ⊢
          refine (err_word e w1).mono ?_
          rintro x w2 ⟨rfl, b2⟩
          have hN2 := (Only.of_below (S := fun _ => False) b2).blk (fun q => q) hN
          have b02 : Below w.heap.size w w2 := b0.trans (b2.mono b0.size)
          obtain ⟨t0, t1, t2, t3⟩ := an_cells hN2
          clear hN2 hN b0
          go_wp2_with fail
          go_ret
          exact ⟨rfl, b02⟩
      · have db : (b == 0) = false := by simpa using zb
        obtain rfl : ok = false := no_of h (by unfold okA; first | omega | (simp; done) | (simp; omega) | (simp only; omega))
        clear h zb he0 hr
        go_enter Try.func12, Try.ntmps12
        go_wp2_with fail
        have hN := heap_alloc_new w (.cells #[.int .i64 1, .int .i64 b, .int .i64 y, .int .i64 e] 31)
        generalize w.alloc (.cells #[.int .i64 1, .int .i64 b, .int .i64 y, .int .i64 e] 31) = w1 at b0 hN ⊢
        refine (err_word e w1).mono ?_
        rintro x w2 ⟨rfl, b2⟩
        have hN2 := (Only.of_below (S := fun _ => False) b2).blk (fun q => q) hN
        have b02 : Below w.heap.size w w2 := b0.trans (b2.mono b0.size)
        obtain ⟨t0, t1, t2, t3⟩ := an_cells hN2
        clear hN2 hN b0
        go_wp2_with fail
        go_ret
        exact ⟨rfl, b02⟩
    · have hw : ((bst (wE e)).toList == []) = true := by
        rw [sv_lit]
        unfold wE
        rw [if_neg (by omega), if_neg (by omega), if_neg (by omega), if_neg (by omega), if_neg (by omega), if_neg (by omega), if_neg (by omega)]; rfl
      obtain rfl : ok = false := no_of h (by unfold okA; first | omega | (simp; done) | (simp; omega) | (simp only; omega))
      clear h he0 hr
      go_enter Try.func12, Try.ntmps12
      go_wp2_with fail
      have hN := heap_alloc_new w (.cells #[.int .i64 1, .int .i64 b, .int .i64 y, .int .i64 e] 31)
      generalize w.alloc (.cells #[.int .i64 1, .int .i64 b, .int .i64 y, .int .i64 e] 31) = w1 at b0 hN ⊢
      refine (err_word e w1).mono ?_
      rintro x w2 ⟨rfl, b2⟩
      have hN2 := (Only.of_below (S := fun _ => False) b2).blk (fun q => q) hN
      have b02 : Below w.heap.size w w2 := b0.trans (b2.mono b0.size)
      obtain ⟨t0, t1, t2, t3⟩ := an_cells hN2
      clear hN2 hN b0
      go_wp2_with fail
      go_ret
      exact ⟨rfl, b02⟩

set_option maxRecDepth 100000 in
set_option maxHeartbeats 1600000 in
theorem right2 (b y e : Int) (w : World) (ok : Bool) (h : ok = true ↔ okA ⟨2, b, y, e⟩) :
    Calls Try.prog 12 #[.agg #[.int .i64 2, .int .i64 b, .int .i64 y, .int .i64 e]] w fun e w' => e = .returned (.bool ok) ∧ Below w.heap.size w w' := by
  have b0 : Below w.heap.size w (w.alloc (.cells #[.int .i64 2, .int .i64 b, .int .i64 y, .int .i64 e] 31)) := (Below.refl _ _).alloc (Nat.le_refl _) _
  by_cases hlo : 1 ≤ b
  · by_cases hhi : b ≤ 2147483647
    · by_cases zy : y = 0
      · subst zy
        by_cases ze : e = 0
        · subst ze
          obtain rfl : ok = true := h.2 (by unfold okA; first | omega | (simp; done) | (simp; omega) | (simp only; omega))
          clear h
          go_enter Try.func12, Try.ntmps12
          go_wp2
          go_ret
          exact ⟨rfl, b0⟩
        · have de : (e == 0) = false := by simpa using ze
          obtain rfl : ok = false := no_of h (by unfold okA; first | omega | (simp; done) | (simp; omega) | (simp only; omega))
          clear h ze
          go_enter Try.func12, Try.ntmps12
          go_wp2
          go_ret
          exact ⟨rfl, b0⟩
      · have dy : (y == 0) = false := by simpa using zy
        obtain rfl : ok = false := no_of h (by unfold okA; first | omega | (simp; done) | (simp; omega) | (simp only; omega))
        clear h zy
        go_enter Try.func12, Try.ntmps12
        go_wp2
        go_ret
        exact ⟨rfl, b0⟩
    · have dh : decide (b ≤ 2147483647) = false := by simp; omega
      obtain rfl : ok = false := no_of h (by unfold okA; first | omega | (simp; done) | (simp; omega) | (simp only; omega))
      clear h hhi
      go_enter Try.func12, Try.ntmps12
      go_wp2
      go_ret
      exact ⟨rfl, b0⟩
  · have dl : decide (1 ≤ b) = false := by simp; omega
    obtain rfl : ok = false := no_of h (by unfold okA; first | omega | (simp; done) | (simp; omega) | (simp only; omega))
    clear h hlo
    go_enter Try.func12, Try.ntmps12
    go_wp2
    go_ret
    exact ⟨rfl, b0⟩

set_option maxRecDepth 100000 in
set_option maxHeartbeats 1600000 in
theorem right3 (b y e : Int) (w : World) (ok : Bool) (h : ok = true ↔ okA ⟨3, b, y, e⟩) :
    Calls Try.prog 12 #[.agg #[.int .i64 3, .int .i64 b, .int .i64 y, .int .i64 e]] w fun e w' => e = .returned (.bool ok) ∧ Below w.heap.size w w' := by
  have b0 : Below w.heap.size w (w.alloc (.cells #[.int .i64 3, .int .i64 b, .int .i64 y, .int .i64 e] 31)) := (Below.refl _ _).alloc (Nat.le_refl _) _
  by_cases hlo : 1 ≤ b
  · by_cases hhi : b ≤ 2147483647
    · by_cases zy : y = 0
      · subst zy
        by_cases ze : e = 0
        · subst ze
          obtain rfl : ok = true := h.2 (by unfold okA; first | omega | (simp; done) | (simp; omega) | (simp only; omega))
          clear h
          go_enter Try.func12, Try.ntmps12
          go_wp2
          go_ret
          exact ⟨rfl, b0⟩
        · have de : (e == 0) = false := by simpa using ze
          obtain rfl : ok = false := no_of h (by unfold okA; first | omega | (simp; done) | (simp; omega) | (simp only; omega))
          clear h ze
          go_enter Try.func12, Try.ntmps12
          go_wp2
          go_ret
          exact ⟨rfl, b0⟩
      · have dy : (y == 0) = false := by simpa using zy
        obtain rfl : ok = false := no_of h (by unfold okA; first | omega | (simp; done) | (simp; omega) | (simp only; omega))
        clear h zy
        go_enter Try.func12, Try.ntmps12
        go_wp2
        go_ret
        exact ⟨rfl, b0⟩
    · have dh : decide (b ≤ 2147483647) = false := by simp; omega
      obtain rfl : ok = false := no_of h (by unfold okA; first | omega | (simp; done) | (simp; omega) | (simp only; omega))
      clear h hhi
      go_enter Try.func12, Try.ntmps12
      go_wp2
      go_ret
      exact ⟨rfl, b0⟩
  · have dl : decide (1 ≤ b) = false := by simp; omega
    obtain rfl : ok = false := no_of h (by unfold okA; first | omega | (simp; done) | (simp; omega) | (simp only; omega))
    clear h hlo
    go_enter Try.func12, Try.ntmps12
    go_wp2
    go_ret
    exact ⟨rfl, b0⟩

set_option maxRecDepth 100000 in
set_option maxHeartbeats 1600000 in
theorem right4 (b y e : Int) (w : World) (ok : Bool) (h : ok = true ↔ okA ⟨4, b, y, e⟩) :
    Calls Try.prog 12 #[.agg #[.int .i64 4, .int .i64 b, .int .i64 y, .int .i64 e]] w fun e w' => e = .returned (.bool ok) ∧ Below w.heap.size w w' := by
  have b0 : Below w.heap.size w (w.alloc (.cells #[.int .i64 4, .int .i64 b, .int .i64 y, .int .i64 e] 31)) := (Below.refl _ _).alloc (Nat.le_refl _) _
  by_cases hr : 1 ≤ y ∧ y ≤ 4
  · have hw : ((bst (wY y)).toList == []) = false := by
      rw [sv_lit]
      have : y = 1 ∨ y = 2 ∨ y = 3 ∨ y = 4 := by omega
      rcases this with rfl | rfl | rfl | rfl <;> decide
    by_cases zb : b = 0
    · subst zb
      by_cases ze : e = 0
      · subst ze
        obtain rfl : ok = true := h.2 (by unfold okA; first | omega | (simp; done) | (simp; omega) | (simp only; omega))
        clear h hr
        go_enter Try.func12, Try.ntmps12
        go_wp2_with fail
        have hN := heap_alloc_new w (.cells #[.int .i64 4, .int .i64 0, .int .i64 y, .int .i64 0] 31)
        generalize w.alloc (.cells #[.int .i64 4, .int .i64 0, .int .i64 y, .int .i64 0] 31) = w1 at b0 hN ⊢
        refine (why_any y w1).mono ?_
        rintro x w2 ⟨rfl, rfl⟩
        have hN2 := hN
        have b02 := b0
        obtain ⟨t0, t1, t2, t3⟩ := an_cells hN2
        clear hN2 hN b0
        go_wp2_with fail
        go_ret
        exact ⟨rfl, b02⟩
      · have de : (e == 0) = false := by simpa using ze
        obtain rfl : ok = false := no_of h (by unfold okA; first | omega | (simp; done) | (simp; omega) | (simp only; omega))
        clear h ze hr
        go_enter Try.func12, Try.ntmps12
        go_wp2_with fail
        have hN := heap_alloc_new w (.cells #[.int .i64 4, .int .i64 0, .int .i64 y, .int .i64 e] 31)
        generalize w.alloc (.cells #[.int .i64 4, .int .i64 0, .int .i64 y, .int .i64 e] 31) = w1 at b0 hN ⊢
        refine (why_any y w1).mono ?_
        rintro x w2 ⟨rfl, rfl⟩
        have hN2 := hN
        have b02 := b0
        obtain ⟨t0, t1, t2, t3⟩ := an_cells hN2
        clear hN2 hN b0
        go_wp2_with fail
        go_ret
        exact ⟨rfl, b02⟩
    · have db : (b == 0) = false := by simpa using zb
      obtain rfl : ok = false := no_of h (by unfold okA; first | omega | (simp; done) | (simp; omega) | (simp only; omega))
      clear h zb hr
      go_enter Try.func12, Try.ntmps12
      go_wp2_with fail
      have hN := heap_alloc_new w (.cells #[.int .i64 4, .int .i64 b, .int .i64 y, .int .i64 e] 31)
      generalize w.alloc (.cells #[.int .i64 4, .int .i64 b, .int .i64 y, .int .i64 e] 31) = w1 at b0 hN ⊢
      refine (why_any y w1).mono ?_
      rintro x w2 ⟨rfl, rfl⟩
      have hN2 := hN
      have b02 := b0
      obtain ⟨t0, t1, t2, t3⟩ := an_cells hN2
      clear hN2 hN b0
      go_wp2_with fail
      go_ret
      exact ⟨rfl, b02⟩
  · have hw : ((bst (wY y)).toList == []) = true := by
      rw [sv_lit]
      unfold wY
      rw [if_neg (by omega), if_neg (by omega), if_neg (by omega), if_neg (by omega)]; rfl
    obtain rfl : ok = false := no_of h (by unfold okA; first | omega | (simp; done) | (simp; omega) | (simp only; omega))
    clear h hr
    go_enter Try.func12, Try.ntmps12
    go_wp2_with fail
    have hN := heap_alloc_new w (.cells #[.int .i64 4, .int .i64 b, .int .i64 y, .int .i64 e] 31)
    generalize w.alloc (.cells #[.int .i64 4, .int .i64 b, .int .i64 y, .int .i64 e] 31) = w1 at b0 hN ⊢
    refine (why_any y w1).mono ?_
    rintro x w2 ⟨rfl, rfl⟩
    have hN2 := hN
    have b02 := b0
    obtain ⟨t0, t1, t2, t3⟩ := an_cells hN2
    clear hN2 hN b0
    go_wp2_with fail
    go_ret
    exact ⟨rfl, b02⟩

set_option maxRecDepth 100000 in
set_option maxHeartbeats 1600000 in
theorem rightX (k b y e : Int) (w : World) (ok : Bool) (h : ok = true ↔ okA ⟨k, b, y, e⟩) (h0 : k ≠ 0) (h1 : k ≠ 1) (h2 : k ≠ 2) (h3 : k ≠ 3) (h4 : k ≠ 4) :
    Calls Try.prog 12 #[.agg #[.int .i64 k, .int .i64 b, .int .i64 y, .int .i64 e]] w fun e w' => e = .returned (.bool ok) ∧ Below w.heap.size w w' := by
  have b0 : Below w.heap.size w (w.alloc (.cells #[.int .i64 k, .int .i64 b, .int .i64 y, .int .i64 e] 31)) := (Below.refl _ _).alloc (Nat.le_refl _) _
  obtain rfl : ok = false := no_of h (by unfold okA; first | omega | (simp; done) | (simp; omega) | (simp only; omega))
  have d0 : (k == 0) = false := by simpa using h0
  have d1 : (k == 1) = false := by simpa using h1
  have d2 : (k == 2) = false := by simpa using h2
  have d3 : (k == 3) = false := by simpa using h3
  have d4 : (k == 4) = false := by simpa using h4
  clear h h0 h1 h2 h3 h4
  go_enter Try.func12, Try.ntmps12
  go_wp2
  go_ret
  exact ⟨rfl, b0⟩

theorem right_any (k b y e : Int) (w : World) (ok : Bool) (h : ok = true ↔ okA ⟨k, b, y, e⟩) :
    Calls Try.prog 12 #[.agg #[.int .i64 k, .int .i64 b, .int .i64 y, .int .i64 e]] w fun e w' => e = .returned (.bool ok) ∧ Below w.heap.size w w' := by
  by_cases h0 : k = 0
  · subst h0; exact right0 b y e w ok h
  by_cases h1 : k = 1
  · subst h1; exact right1 b y e w ok h
  by_cases h2 : k = 2
  · subst h2; exact right2 b y e w ok h
  by_cases h3 : k = 3
  · subst h3; exact right3 b y e w ok h
  by_cases h4 : k = 4
  · subst h4; exact right4 b y e w ok h
  exact rightX k b y e w ok h h0 h1 h2 h3 h4
end Go.Proofs.Ytgpookphacdgoaa.W.RA
