/- Contracts of an event's numbers, and of event.made. -/
import Derived.Test.YtkfhgdnlieaedaaEvM
import Derived.Test.YtkfhgdnlieaedaaItm
import Derived.BigRegion
namespace Go.Proofs.Ytkfhgdnlieaedaa.W
open Go.RowKit

/-- A slice of these numbers: nil, or a block from B on. -/
def IL (w : World) (B : Nat) (A : Option Addr) (xs : List Int) : Prop := (A = none ∧ xs = []) ∨ ∃ g, A = some ⟨g, 0, none⟩ ∧ B ≤ g ∧ w.heap[g]? = some (.cells (ints xs).toArray 3 (0, 0))
def NewI (w : World) (xs : List Int) (e : Ending) (w' : World) : Prop := ∃ A k, Hid (k = xs.length) ∧ e = .returned (.slice A k k) ∧ IL w' w.heap.size A xs ∧ Below w.heap.size w w'
theorem NewI.nil {w w' : World} {xs : List Int} (hx : xs = []) (hb : Below w.heap.size w w') : NewI w xs (.returned (.slice none 0 0)) w' := by
  subst hx; exact ⟨none, 0, rfl, rfl, Or.inl ⟨rfl, rfl⟩, hb⟩
theorem NewI.mk {w w' : World} {xs ys : List Int} {g k : Nat} (hx : xs = ys) (hk : k = ys.length) (hg : w'.heap[g]? = some (.cells (ints ys).toArray 3 (0, 0))) (hB : w.heap.size ≤ g) (hb : Below w.heap.size w w') : NewI w xs (.returned (.slice (some ⟨g, 0, none⟩) k k)) w' := by
  subst hx; exact ⟨_, k, hk, rfl, Or.inr ⟨g, rfl, hB, hg⟩, hb⟩
theorem second (w : World) (o u : Obj) : ((w.alloc o).alloc u).heap[w.heap.size + 1]? = some u := by
  have := heap_alloc_new (w.alloc o) u
  simpa using this
abbrev ec (e : Ev) : List Value := [.int .i64 e.k, .int .i64 e.n, .int .i64 e.l, .int .i64 e.s, .int .i64 e.r, .int .i64 e.a, .int .i64 e.m, .int .i64 e.c, .int .i64 e.v, .int .i64 e.p]
abbrev ev (e : Ev) : Value := .agg #[.int .i64 e.k, .int .i64 e.n, .int .i64 e.l, .int .i64 e.s, .int .i64 e.r, .int .i64 e.a, .int .i64 e.m, .int .i64 e.c, .int .i64 e.v, .int .i64 e.p]

set_option maxRecDepth 100000 in
set_option maxHeartbeats 1600000 in
theorem numbers_any (k n l s r a m c v p : Int) (w : World) :
    Calls Try.prog 15 #[.agg #[.int .i64 k, .int .i64 n, .int .i64 l, .int .i64 s, .int .i64 r, .int .i64 a, .int .i64 m, .int .i64 c, .int .i64 v, .int .i64 p]] w (NewI w (nums ⟨k, n, l, s, r, a, m, c, v, p⟩)) := by
  have b0 : Below w.heap.size w w := Below.refl _ _
  by_cases h0 : k = 0
  · have hx : nums ⟨k, n, l, s, r, a, m, c, v, p⟩ = [] := by simp [nums, h0]
    have HX := Lib.hid hx
    clear hx
    subst h0
    go_enter Try.func15, Try.ntmps15
    go_wp2
    go_ret
    exact NewI.nil HX.out (b0.alloc (Nat.le_refl _) _)
  · by_cases h1 : k = 1
    · have hx : nums ⟨k, n, l, s, r, a, m, c, v, p⟩ = [n, l, s, r] := by simp [nums, h1]
      have HX := Lib.hid hx
      clear hx
      subst h1
      go_enter Try.func15, Try.ntmps15
      go_wp2
      go_ret
      exact NewI.mk HX.out rfl (second _ _ _) (by simp) ((b0.alloc (Nat.le_refl _) _).alloc (by simp) _)
    · by_cases h2 : k = 2
      · have hx : nums ⟨k, n, l, s, r, a, m, c, v, p⟩ = [n, a, m, c, v, p] := by simp [nums, h2]
        have HX := Lib.hid hx
        clear hx
        subst h2
        go_enter Try.func15, Try.ntmps15
        go_wp2
        go_ret
        exact NewI.mk HX.out rfl (second _ _ _) (by simp) ((b0.alloc (Nat.le_refl _) _).alloc (by simp) _)
      · by_cases h3 : k = 3
        · have hx : nums ⟨k, n, l, s, r, a, m, c, v, p⟩ = [n, s] := by simp [nums, h3]
          have HX := Lib.hid hx
          clear hx
          subst h3
          go_enter Try.func15, Try.ntmps15
          go_wp2
          go_ret
          exact NewI.mk HX.out rfl (second _ _ _) (by simp) ((b0.alloc (Nat.le_refl _) _).alloc (by simp) _)
        · have hx : nums ⟨k, n, l, s, r, a, m, c, v, p⟩ = [n] := by simp [nums, h0, h1, h2, h3]
          have HX := Lib.hid hx
          clear hx
          have d0 : (k == 0) = false := by simpa using h0
          have d1 : (k == 1) = false := by simpa using h1
          have d2 : (k == 2) = false := by simpa using h2
          have d3 : (k == 3) = false := by simpa using h3
          clear h0 h1 h2 h3
          go_enter Try.func15, Try.ntmps15
          go_wp2
          go_ret
          exact NewI.mk HX.out rfl (second _ _ _) (by simp) ((b0.alloc (Nat.le_refl _) _).alloc (by simp) _)

theorem IL.cells {w : World} {B : Nat} {A : Option Addr} {xs : List Int} (h : IL w B A xs) (hx : xs ≠ []) : ∃ g, A = some ⟨g, 0, none⟩ ∧ B ≤ g ∧ g < w.heap.size ∧ ∀ j x, xs[j]? = some x → w.cell? ⟨g, j, none⟩ = some (.int .i64 x) := by
  rcases h with ⟨_, rfl⟩ | ⟨g, h1, h2, h3⟩
  · exact absurd rfl hx
  · exact ⟨g, h1, h2, lt_of_row h3, fun j x hj => cellL h3 j _ (by rw [List.getElem?_map, hj]; rfl)⟩
theorem IL.lies {w : World} {B : Nat} {A : Option Addr} {xs : List Int} (h : IL w B A xs) : Lies w w.heap.size A (ints xs) := by
  rcases h with ⟨rfl, rfl⟩ | ⟨g, rfl, _, h3⟩
  · exact Lies.nil _ _ _
  · intro j u hu
    exact ⟨_, rfl, lt_of_row h3, by rw [add_lit0]; exact cellL h3 j u hu⟩
theorem IL.below {w w' : World} {B B' : Nat} {A : Option Addr} {xs : List Int} (h : IL w B A xs) (hb : Below B' w w') (hB : w.heap.size ≤ B') : IL w' B A xs := by
  rcases h with h | ⟨g, h1, h2, h3⟩
  · exact Or.inl h
  · exact Or.inr ⟨g, h1, h2, by rw [hb.block g (by have := lt_of_row h3; omega)]; exact h3⟩

theorem sizeE : (Try.prog.info? 27).map (·.size) = some 10 := by kernel_rfl
theorem wpList_store_ev {w : World} {ops : Array Oper} {rest : List Oper} {o : Oper} {act : Act} {Q : Exit → Act → World → Prop} (hgd : o.guard = none) (x y : Operand) (ho : o.op = .store 27 x y)
    (g : Nat) (k n l s r a m c v p : Int) (hx : act.eval x = .pointer (some ⟨g, 0, none⟩)) (hy : act.eval y = .agg #[.int .i64 k, .int .i64 n, .int .i64 l, .int .i64 s, .int .i64 r, .int .i64 a, .int .i64 m, .int .i64 c, .int .i64 v, .int .i64 p]) (k0 n0 l0 s0 r0 a0 m0 c0 v0 p0 : Int)
    (HG : Hid (w.heap[g]? = some (.cells #[.int .i64 k0, .int .i64 n0, .int .i64 l0, .int .i64 s0, .int .i64 r0, .int .i64 a0, .int .i64 m0, .int .i64 c0, .int .i64 v0, .int .i64 p0] 27 (0, 0))))
    (hn : ∀ w', Hid (w'.heap[g]? = some (.cells #[.int .i64 k, .int .i64 n, .int .i64 l, .int .i64 s, .int .i64 r, .int .i64 a, .int .i64 m, .int .i64 c, .int .i64 v, .int .i64 p] 27 (0, 0))) → w.grownBy w' (some g) → wpList Try.prog ops Q rest (act.put o.dst undef) w') : wpList Try.prog ops Q (o :: rest) act w := by
  refine wpList_store_row hgd _ x y ho g _ hx hy _ _ HG.out sizeE rfl (by simp [Value.oneCell']) ?_
  exact hn _ (Lib.hid (show _ = _ from setRow_heap w g _ _ _ _ HG.out)) ⟨rfl, rfl, rfl, by simp [World.setRow], fun k _ hk => setRow_other w g k _ (by intro e; exact hk (by rw [e]))⟩
theorem ret_ev {g : Nat} {k n l s r a m c v p : Int} {w : World} {fn : Func} {t : Tmp} {tmps : Array Value} (hf : fn.results = #[.cell t 27]) (ht : tmps.getD t undef = .pointer (some ⟨g, 0, none⟩))
    (HG : Hid (w.heap[g]? = some (.cells #[.int .i64 k, .int .i64 n, .int .i64 l, .int .i64 s, .int .i64 r, .int .i64 a, .int .i64 m, .int .i64 c, .int .i64 v, .int .i64 p] 27 (0, 0)))) : (results fn tmps).run Try.prog w = .ok (.agg #[.int .i64 k, .int .i64 n, .int .i64 l, .int .i64 s, .int .i64 r, .int .i64 a, .int .i64 m, .int .i64 c, .int .i64 v, .int .i64 p]) w :=
  results_cell_row hf tmps w g _ _ _ _ ht HG.out Try.underlying27 rfl sizeE
theorem ev_mk {k : Int} {x : Nat → Int} {e : Ev} (h : mk k x = e) : ev (mk k x) = ev e := by rw [h]
theorem done_row {w w1 w2 : World} (h : Below w.heap.size w w1) (hg : w1.grownBy w2 (some w.heap.size)) : Below w.heap.size w w2 := below_row h (Nat.le_refl _) hg h.size

set_option maxRecDepth 100000 in
set_option maxHeartbeats 1600000 in
theorem made_any (k : Int) (A : Option Addr) (L B : Nat) (xs : List Int) (w : World) (hl : xs.length = cnt k) (hL : L = xs.length) (hA : IL w B A xs) :
    Calls Try.prog 16 #[.int .i64 k, .slice A L L] w fun e w' => e = .returned (ev (mk k (nth xs))) ∧ Below w.heap.size w w' := by
  have b0 : Below w.heap.size w w := Below.refl _ _
  by_cases d0 : k = 0
  · have hx : mk k (nth xs) = ⟨0, 0, 0, 0, 0, 0, 0, 0, 0, 0⟩ := by simp [mk, d0]
    rw [hx]
    clear hx
    subst d0
    go_enter Try.func16, Try.ntmps16
    go_wp2
    refine bodyPost_ret (by simp [results, Try.results16, go_sem]) rfl ⟨rfl, ?_⟩
    exact b0.alloc (Nat.le_refl _) _
  · by_cases d1 : k = 1
    · subst d1
      match xs, hl with
      | [x0, x1, x2, x3], _ =>
        have hx : mk 1 (nth [x0, x1, x2, x3]) = ⟨1, x0, x1, x2, x3, 0, 0, 0, 0, 0⟩ := by simp [mk, nth]
        rw [hx]
        clear hx
        obtain rfl : L = 4 := hL
        obtain ⟨g, rfl, hB, hg, hc⟩ := hA.cells (by simp)
        have c0 := hc 0 x0 rfl
        have c1 := hc 1 x1 rfl
        have c2 := hc 2 x2 rfl
        have c3 := hc 3 x3 rfl
        clear hc hA
        go_enter Try.func16, Try.ntmps16
        go_wp2_with fail
        have HN0 := heap_alloc_new w (.cells #[.int .i64 0, .int .i64 0, .int .i64 0, .int .i64 0, .int .i64 0, .int .i64 0, .int .i64 0, .int .i64 0, .int .i64 0, .int .i64 0] 27)
        have b1 : Below w.heap.size w (w.alloc (.cells #[.int .i64 0, .int .i64 0, .int .i64 0, .int .i64 0, .int .i64 0, .int .i64 0, .int .i64 0, .int .i64 0, .int .i64 0, .int .i64 0] 27)) := b0.alloc (Nat.le_refl _) _
        have f0 := (Only.of_below (S := fun _ => False) b1).cell (fun q => q) c0
        have f1 := (Only.of_below (S := fun _ => False) b1).cell (fun q => q) c1
        have f2 := (Only.of_below (S := fun _ => False) b1).cell (fun q => q) c2
        have f3 := (Only.of_below (S := fun _ => False) b1).cell (fun q => q) c3
        clear c0 c1 c2 c3
        generalize w.alloc (.cells #[.int .i64 0, .int .i64 0, .int .i64 0, .int .i64 0, .int .i64 0, .int .i64 0, .int .i64 0, .int .i64 0, .int .i64 0, .int .i64 0] 27) = w1 at HN0 b1 f0 f1 f2 f3 ⊢
        go_still_tail 14, (by kernel_rfl)
        change wpList _ _ _ _ _ w1.drew
        have HN := Lib.hid (show w1.drew.heap[w.heap.size]? = _ from HN0)
        replace b1 : Below w.heap.size w w1.drew := below_drewN b1 1
        clear HN0 f0 f1 f2 f3
        generalize w1.drew = w1 at HN b1 ⊢
        go_wp2_with (with_reducible refine wpList_store_ev rfl (.tmp 4) (.tmp 24) rfl w.heap.size 1 x0 x1 x2 x3 0 0 0 0 0 rfl rfl 0 0 0 0 0 0 0 0 0 0 HN ?_; intro w2 HG hg2)
        exact bodyPost_ret (ret_ev (fn := Try.f16) rfl rfl HG) rfl ⟨rfl, done_row b1 hg2⟩
    · by_cases d2 : k = 2
      · subst d2
        match xs, hl with
        | [x0, x1, x2, x3, x4, x5], _ =>
          have hx : mk 2 (nth [x0, x1, x2, x3, x4, x5]) = ⟨2, x0, 0, 0, 0, x1, x2, x3, x4, x5⟩ := by simp [mk, nth]
          rw [hx]
          clear hx
          obtain rfl : L = 6 := hL
          obtain ⟨g, rfl, hB, hg, hc⟩ := hA.cells (by simp)
          have c0 := hc 0 x0 rfl
          have c1 := hc 1 x1 rfl
          have c2 := hc 2 x2 rfl
          have c3 := hc 3 x3 rfl
          have c4 := hc 4 x4 rfl
          have c5 := hc 5 x5 rfl
          clear hc hA
          go_enter Try.func16, Try.ntmps16
          go_wp2_with fail
          have HN0 := heap_alloc_new w (.cells #[.int .i64 0, .int .i64 0, .int .i64 0, .int .i64 0, .int .i64 0, .int .i64 0, .int .i64 0, .int .i64 0, .int .i64 0, .int .i64 0] 27)
          have b1 : Below w.heap.size w (w.alloc (.cells #[.int .i64 0, .int .i64 0, .int .i64 0, .int .i64 0, .int .i64 0, .int .i64 0, .int .i64 0, .int .i64 0, .int .i64 0, .int .i64 0] 27)) := b0.alloc (Nat.le_refl _) _
          have f0 := (Only.of_below (S := fun _ => False) b1).cell (fun q => q) c0
          have f1 := (Only.of_below (S := fun _ => False) b1).cell (fun q => q) c1
          have f2 := (Only.of_below (S := fun _ => False) b1).cell (fun q => q) c2
          have f3 := (Only.of_below (S := fun _ => False) b1).cell (fun q => q) c3
          have f4 := (Only.of_below (S := fun _ => False) b1).cell (fun q => q) c4
          have f5 := (Only.of_below (S := fun _ => False) b1).cell (fun q => q) c5
          clear c0 c1 c2 c3 c4 c5
          generalize w.alloc (.cells #[.int .i64 0, .int .i64 0, .int .i64 0, .int .i64 0, .int .i64 0, .int .i64 0, .int .i64 0, .int .i64 0, .int .i64 0, .int .i64 0] 27) = w1 at HN0 b1 f0 f1 f2 f3 f4 f5 ⊢
          go_still_tail 20, (by kernel_rfl)
          change wpList _ _ _ _ _ w1.drew
          have HN := Lib.hid (show w1.drew.heap[w.heap.size]? = _ from HN0)
          replace b1 : Below w.heap.size w w1.drew := below_drewN b1 1
          clear HN0 f0 f1 f2 f3 f4 f5
          generalize w1.drew = w1 at HN b1 ⊢
          go_wp2_with (with_reducible refine wpList_store_ev rfl (.tmp 4) (.tmp 46) rfl w.heap.size 2 x0 0 0 0 x1 x2 x3 x4 x5 rfl rfl 0 0 0 0 0 0 0 0 0 0 HN ?_; intro w2 HG hg2)
          exact bodyPost_ret (ret_ev (fn := Try.f16) rfl rfl HG) rfl ⟨rfl, done_row b1 hg2⟩
      · by_cases d3 : k = 3
        · subst d3
          match xs, hl with
          | [x0, x1], _ =>
            have hx : mk 3 (nth [x0, x1]) = ⟨3, x0, 0, x1, 0, 0, 0, 0, 0, 0⟩ := by simp [mk, nth]
            rw [hx]
            clear hx
            obtain rfl : L = 2 := hL
            obtain ⟨g, rfl, hB, hg, hc⟩ := hA.cells (by simp)
            have c0 := hc 0 x0 rfl
            have c1 := hc 1 x1 rfl
            clear hc hA
            go_enter Try.func16, Try.ntmps16
            go_wp2_with fail
            have HN0 := heap_alloc_new w (.cells #[.int .i64 0, .int .i64 0, .int .i64 0, .int .i64 0, .int .i64 0, .int .i64 0, .int .i64 0, .int .i64 0, .int .i64 0, .int .i64 0] 27)
            have b1 : Below w.heap.size w (w.alloc (.cells #[.int .i64 0, .int .i64 0, .int .i64 0, .int .i64 0, .int .i64 0, .int .i64 0, .int .i64 0, .int .i64 0, .int .i64 0, .int .i64 0] 27)) := b0.alloc (Nat.le_refl _) _
            have f0 := (Only.of_below (S := fun _ => False) b1).cell (fun q => q) c0
            have f1 := (Only.of_below (S := fun _ => False) b1).cell (fun q => q) c1
            clear c0 c1
            generalize w.alloc (.cells #[.int .i64 0, .int .i64 0, .int .i64 0, .int .i64 0, .int .i64 0, .int .i64 0, .int .i64 0, .int .i64 0, .int .i64 0, .int .i64 0] 27) = w1 at HN0 b1 f0 f1 ⊢
            go_still_tail 8, (by kernel_rfl)
            change wpList _ _ _ _ _ w1.drew
            have HN := Lib.hid (show w1.drew.heap[w.heap.size]? = _ from HN0)
            replace b1 : Below w.heap.size w w1.drew := below_drewN b1 1
            clear HN0 f0 f1
            generalize w1.drew = w1 at HN b1 ⊢
            go_wp2_with (with_reducible refine wpList_store_ev rfl (.tmp 4) (.tmp 56) rfl w.heap.size 3 x0 0 x1 0 0 0 0 0 0 rfl rfl 0 0 0 0 0 0 0 0 0 0 HN ?_; intro w2 HG hg2)
            exact bodyPost_ret (ret_ev (fn := Try.f16) rfl rfl HG) rfl ⟨rfl, done_row b1 hg2⟩
        · have hc1 : cnt k = 1 := by simp [cnt, d0, d1, d2, d3]
          rw [hc1] at hl
          match xs, hl with
          | [x0], _ =>
            have hx : mk k (nth [x0]) = ⟨k, x0, 0, 0, 0, 0, 0, 0, 0, 0⟩ := by simp [mk, nth, d0, d1, d2, d3]
            rw [hx]
            clear hx
            obtain rfl : L = 1 := hL
            obtain ⟨g, rfl, hB, hg, hc⟩ := hA.cells (by simp)
            have c0 := hc 0 x0 rfl
            clear hc hA
            have e0 : (k == 0) = false := by simpa using d0
            have e1 : (k == 1) = false := by simpa using d1
            have e2 : (k == 2) = false := by simpa using d2
            have e3 : (k == 3) = false := by simpa using d3
            clear d0 d1 d2 d3
            go_enter Try.func16, Try.ntmps16
            go_wp2_with fail
            go_wp2
            refine bodyPost_ret (by simp [results, Try.results16, go_sem]) rfl ⟨rfl, ?_⟩
            exact b0.alloc (Nat.le_refl _) _

end Go.Proofs.Ytkfhgdnlieaedaa.W
