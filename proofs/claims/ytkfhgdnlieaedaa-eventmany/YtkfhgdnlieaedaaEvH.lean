/- Contracts of the law's numbers, with and Right. -/
import Derived.Test.YtkfhgdnlieaedaaEvG
namespace Go.Proofs.Ytkfhgdnlieaedaa.W
open Go.RowKit

/-- Numbers, and whether the kind is one. -/
def NewJ (w : World) (xs : List Int) (ok : Bool) (e : Ending) (w' : World) : Prop := ∃ A k, Hid (k = xs.length) ∧ e = .returned (.tuple #[.slice A k k, .bool ok]) ∧ IL w' w.heap.size A xs ∧ Below w.heap.size w w'
theorem NewJ.nil {w w' : World} {xs : List Int} {ok : Bool} (hx : xs = []) (hb : Below w.heap.size w w') : NewJ w xs ok (.returned (.tuple #[.slice none 0 0, .bool ok])) w' := by
  subst hx; exact ⟨none, 0, rfl, rfl, Or.inl ⟨rfl, rfl⟩, hb⟩
theorem NewJ.mk {w w' : World} {xs ys : List Int} {ok ok' : Bool} {g k : Nat} (hx : xs = ys) (hk : k = ys.length) (hg : w'.heap[g]? = some (.cells (ints ys).toArray 3 (0, 0))) (hB : w.heap.size ≤ g) (hb : Below w.heap.size w w') (ho : ok = ok') : NewJ w xs ok (.returned (.tuple #[.slice (some ⟨g, 0, none⟩) k k, .bool ok'])) w' := by
  subst hx; subst ho; exact ⟨_, k, hk, rfl, Or.inr ⟨g, rfl, hB, hg⟩, hb⟩

set_option maxRecDepth 100000 in
set_option maxHeartbeats 1600000 in
theorem lnumbers_any (k n l s r a m c v p : Int) (ok : Bool) (w : World) (hok : ok = decide (0 ≤ k ∧ k ≤ 9)) :
    Calls Try.prog 17 #[.agg #[.int .i64 k, .int .i64 n, .int .i64 l, .int .i64 s, .int .i64 r, .int .i64 a, .int .i64 m, .int .i64 c, .int .i64 v, .int .i64 p]] w (NewJ w (nums ⟨k, n, l, s, r, a, m, c, v, p⟩) ok) := by
  have b0 : Below w.heap.size w w := Below.refl _ _
  by_cases h0 : k = 0
  · have hx : nums ⟨k, n, l, s, r, a, m, c, v, p⟩ = [] := by simp [nums, h0]
    have HX := Lib.hid hx
    clear hx
    subst h0
    obtain rfl : ok = true := by rw [hok]; decide
    clear hok
    go_enter Try.func17, Try.ntmps17
    go_wp2
    go_ret2
    exact NewJ.nil HX.out (b0.alloc (Nat.le_refl _) _)
  by_cases h1 : k = 1
  · have hx : nums ⟨k, n, l, s, r, a, m, c, v, p⟩ = [n, l, s, r] := by simp [nums, h1]
    have HX := Lib.hid hx
    clear hx
    subst h1
    obtain rfl : ok = true := by rw [hok]; decide
    clear hok
    go_enter Try.func17, Try.ntmps17
    go_wp2
    go_ret2
    exact NewJ.mk HX.out rfl (second _ _ _) (by simp) ((b0.alloc (Nat.le_refl _) _).alloc (by simp) _) rfl
  by_cases h2 : k = 2
  · have hx : nums ⟨k, n, l, s, r, a, m, c, v, p⟩ = [n, a, m, c, v, p] := by simp [nums, h2]
    have HX := Lib.hid hx
    clear hx
    subst h2
    obtain rfl : ok = true := by rw [hok]; decide
    clear hok
    go_enter Try.func17, Try.ntmps17
    go_wp2
    go_ret2
    exact NewJ.mk HX.out rfl (second _ _ _) (by simp) ((b0.alloc (Nat.le_refl _) _).alloc (by simp) _) rfl
  by_cases h3 : k = 3
  · have hx : nums ⟨k, n, l, s, r, a, m, c, v, p⟩ = [n, s] := by simp [nums, h3]
    have HX := Lib.hid hx
    clear hx
    subst h3
    obtain rfl : ok = true := by rw [hok]; decide
    clear hok
    go_enter Try.func17, Try.ntmps17
    go_wp2
    go_ret2
    exact NewJ.mk HX.out rfl (second _ _ _) (by simp) ((b0.alloc (Nat.le_refl _) _).alloc (by simp) _) rfl
  have hx : nums ⟨k, n, l, s, r, a, m, c, v, p⟩ = [n] := by simp [nums, h0, h1, h2, h3]
  have HX := Lib.hid hx
  have HO := Lib.hid hok
  have d0 : (k == 0) = false := by simpa using h0
  have d1 : (k == 1) = false := by simpa using h1
  have d2 : (k == 2) = false := by simpa using h2
  have d3 : (k == 3) = false := by simpa using h3
  by_cases h4 : 4 ≤ k
  · by_cases h9 : k ≤ 9
    · have HT := Lib.hid (show ok = true by rw [hok]; simp; omega)
      clear h0 h1 h2 h3 hx hok
      go_enter Try.func17, Try.ntmps17
      go_wp2
      go_region
      go_wp2
      go_ret2
      exact NewJ.mk HX.out rfl (show _ = _ from second w _ _) (by simp) (by first | exact (b0.alloc (Nat.le_refl _) _).alloc (by simp) _ | exact below_drewN ((b0.alloc (Nat.le_refl _) _).alloc (by simp) _) 1 | exact (below_drewN (b0.alloc (Nat.le_refl _) _) 1).alloc (by simp) _) HT.out
    · have HT := Lib.hid (show ok = false by rw [hok]; simp; omega)
      have h9' : decide (k ≤ 9) = false := by simp; omega
      clear h0 h1 h2 h3 hx hok h9
      go_enter Try.func17, Try.ntmps17
      go_wp2
      go_region
      go_wp2
      go_ret2
      exact NewJ.mk HX.out rfl (show _ = _ from second w _ _) (by simp) (by first | exact (b0.alloc (Nat.le_refl _) _).alloc (by simp) _ | exact below_drewN ((b0.alloc (Nat.le_refl _) _).alloc (by simp) _) 1 | exact (below_drewN (b0.alloc (Nat.le_refl _) _) 1).alloc (by simp) _) HT.out
  · have HT := Lib.hid (show ok = false by rw [hok]; simp; omega)
    have h4' : decide (4 ≤ k) = false := by simp; omega
    clear h0 h1 h2 h3 hx hok h4
    go_enter Try.func17, Try.ntmps17
    go_wp2
    go_region
    go_wp2
    go_ret2
    exact NewJ.mk HX.out rfl (show _ = _ from second w _ _) (by simp) (by first | exact (b0.alloc (Nat.le_refl _) _).alloc (by simp) _ | exact below_drewN ((b0.alloc (Nat.le_refl _) _).alloc (by simp) _) 1 | exact (below_drewN (b0.alloc (Nat.le_refl _) _) 1).alloc (by simp) _) HT.out

set_option maxRecDepth 100000 in
set_option maxHeartbeats 3200000 in
theorem with_any (k : Int) (A : Option Addr) (L B : Nat) (xs : List Int) (w : World) (hl : xs.length = cnt k) (hL : L = xs.length) (hA : IL w B A xs) :
    Calls Try.prog 18 #[.int .i64 k, .slice A L L] w fun e w' => e = .returned (ev (mk k (nth xs))) ∧ Below w.heap.size w w' := by
  have b0 : Below w.heap.size w w := Below.refl _ _
  by_cases d0 : k = 0
  · have hx : mk k (nth xs) = ⟨0, 0, 0, 0, 0, 0, 0, 0, 0, 0⟩ := by simp [mk, d0]
    rw [hx]
    clear hx
    subst d0
    go_enter Try.func18, Try.ntmps18
    go_wp2
    refine bodyPost_ret (by simp [results, Try.results18, go_sem]) rfl ⟨rfl, ?_⟩
    exact (b0.alloc (Nat.le_refl _) _).alloc (by simp) _
  by_cases d1 : k = 1
  · subst d1
    match xs, hl with
    | [x0, x1, x2, x3], _ =>
      have hx : mk 1 (nth [x0, x1, x2, x3]) = ⟨1, x0, x1, x2, x3, 0, 0, 0, 0, 0⟩ := by simp [mk, nth]
      rw [hx]
      clear hx
      obtain rfl : L = 4 := hL
      obtain ⟨g, rfl, hB, hg, hc⟩ := hA.cells (by simp)
      have c0 := hc 0 x0 rfl
      have c1 := hc 1 x1 rfl
      have c2 := hc 2 x2 rfl
      have c3 := hc 3 x3 rfl
      clear hc hA
      have hg1 : g ≠ w.heap.size := by omega
      have hg2 : g ≠ w.heap.size + 1 := by omega
      go_enter Try.func18, Try.ntmps18
      go_wp2
      refine bodyPost_ret (by simp [results, Try.results18, go_sem]) rfl ⟨rfl, ?_⟩
      exact (b0.alloc (Nat.le_refl _) _).alloc (by simp) _
  by_cases d2 : k = 2
  · subst d2
    match xs, hl with
    | [x0, x1, x2, x3, x4, x5], _ =>
      have hx : mk 2 (nth [x0, x1, x2, x3, x4, x5]) = ⟨2, x0, 0, 0, 0, x1, x2, x3, x4, x5⟩ := by simp [mk, nth]
      rw [hx]
      clear hx
      obtain rfl : L = 6 := hL
      obtain ⟨g, rfl, hB, hg, hc⟩ := hA.cells (by simp)
      have c0 := hc 0 x0 rfl
      have c1 := hc 1 x1 rfl
      have c2 := hc 2 x2 rfl
      have c3 := hc 3 x3 rfl
      have c4 := hc 4 x4 rfl
      have c5 := hc 5 x5 rfl
      clear hc hA
      have hg1 : g ≠ w.heap.size := by omega
      have hg2 : g ≠ w.heap.size + 1 := by omega
      go_enter Try.func18, Try.ntmps18
      go_wp2
      refine bodyPost_ret (by simp [results, Try.results18, go_sem]) rfl ⟨rfl, ?_⟩
      exact (b0.alloc (Nat.le_refl _) _).alloc (by simp) _
  by_cases d3 : k = 3
  · subst d3
    match xs, hl with
    | [x0, x1], _ =>
      have hx : mk 3 (nth [x0, x1]) = ⟨3, x0, 0, x1, 0, 0, 0, 0, 0, 0⟩ := by simp [mk, nth]
      rw [hx]
      clear hx
      obtain rfl : L = 2 := hL
      obtain ⟨g, rfl, hB, hg, hc⟩ := hA.cells (by simp)
      have c0 := hc 0 x0 rfl
      have c1 := hc 1 x1 rfl
      clear hc hA
      have hg1 : g ≠ w.heap.size := by omega
      have hg2 : g ≠ w.heap.size + 1 := by omega
      go_enter Try.func18, Try.ntmps18
      go_wp2
      refine bodyPost_ret (by simp [results, Try.results18, go_sem]) rfl ⟨rfl, ?_⟩
      exact (b0.alloc (Nat.le_refl _) _).alloc (by simp) _
  have hc1 : cnt k = 1 := by simp [cnt, d0, d1, d2, d3]
  rw [hc1] at hl
  match xs, hl with
  | [x0], _ =>
    have hx : mk k (nth [x0]) = ⟨k, x0, 0, 0, 0, 0, 0, 0, 0, 0⟩ := by simp [mk, nth, d0, d1, d2, d3]
    rw [hx]
    clear hx
    obtain rfl : L = 1 := hL
    obtain ⟨g, rfl, hB, hg, hc⟩ := hA.cells (by simp)
    have c0 := hc 0 x0 rfl
    clear hc hA
    have e0 : (k == 0) = false := by simpa using d0
    have e1 : (k == 1) = false := by simpa using d1
    have e2 : (k == 2) = false := by simpa using d2
    have e3 : (k == 3) = false := by simpa using d3
    have hg1 : g ≠ w.heap.size := by omega
    have hg2 : g ≠ w.heap.size + 1 := by omega
    clear d0 d1 d2 d3
    go_enter Try.func18, Try.ntmps18
    go_wp2
    refine bodyPost_ret (by simp [results, Try.results18, go_sem]) rfl ⟨rfl, ?_⟩
    exact (b0.alloc (Nat.le_refl _) _).alloc (by simp) _

end Go.Proofs.Ytkfhgdnlieaedaa.W
