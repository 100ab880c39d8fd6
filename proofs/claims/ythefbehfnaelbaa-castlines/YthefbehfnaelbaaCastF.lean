/- The law CastLines: numbers on a line, and its walk. -/
import Derived.Test.YthefbehfnaelbaaCastB
namespace Go.Proofs.Ythefbehfnaelbaa.W
open Go.RowKit

/-- So many numbers on a line, up along it; down along it. -/
def lineU (f b n : Nat) : List Int := (List.range n).map fun (j : Nat) => (f : Int) + (b : Int) * (j : Int)
def lineD (f b n i : Nat) : List Int := (List.range i).map fun (j : Nat) => (f : Int) + (b : Int) * ((n - 1 - j : Nat) : Int)
theorem lineU_snoc (f b i : Nat) : lineU f b (i + 1) = lineU f b i ++ [(f : Int) + (b : Int) * (i : Int)] := by simp [lineU, List.range_succ]
theorem lineD_snoc (f b n i : Nat) : lineD f b n (i + 1) = lineD f b n i ++ [(f : Int) + (b : Int) * ((n - 1 - i : Nat) : Int)] := by simp [lineD, List.range_succ]
theorem lineU_len (f b n : Nat) : (lineU f b n).length = n := by simp [lineU]
theorem lineD_len (f b n i : Nat) : (lineD f b n i).length = i := by simp [lineD]
theorem lineU_at {f b n j : Nat} (h : j < n) : (lineU f b n)[j]? = some ((f : Int) + (b : Int) * (j : Int)) := by simp [lineU, h]
theorem on_line {f b : Nat} (hf : f < 4294967296) (hb : b < 16777216) (j : Nat) (hj : j < 9) : clip ((f : Int) + (b : Int) * (j : Int)) = (f : Int) + (b : Int) * (j : Int) := by
  have h0 : 0 ≤ (b : Int) * (j : Int) := Int.mul_nonneg (by omega) (by omega)
  have h1 : (b : Int) * (j : Int) ≤ (b : Int) * 9 := Int.mul_le_mul_of_nonneg_left (by omega) (by omega)
  exact clip_in (by omega) (by omega)
theorem beh_is {l : List Int} {s d v : Int} (hs : ws l.length 0 l = s) (hd : (l.length : Int) * ((l.length : Int) - 1) = d) (d0 : 0 < d) (v0 : 0 ≤ v) (v1 : v ≤ 1099511627776) (h : s * 2 = v * d) : behI l = v := by
  have s0 : 0 ≤ v * d := Int.mul_nonneg v0 (by omega)
  rw [beh_form s d hs hd d0 (by omega), h, Int.mul_ediv_cancel _ (by omega), clip_in v0 v1]

theorem line_up {f b q : Nat} (hf : f < 4294967296) (hb : b < 16777216) (hq : q < 8) : nextI (lineU f b (q + 2)) = (f : Int) + (b : Int) * (2 + (q : Int)) := by
  have hc := on_line hf hb
  have h : q = 0 ∨ q = 1 ∨ q = 2 ∨ q = 3 ∨ q = 4 ∨ q = 5 ∨ q = 6 ∨ q = 7 := by omega
  rcases h with rfl | rfl | rfl | rfl | rfl | rfl | rfl | rfl
  · show behI [(f : Int) + (b : Int) * ((0 : Nat) : Int), (f : Int) + (b : Int) * ((1 : Nat) : Int)] = _
    refine beh_is (d := 2) rfl rfl (by omega) (by omega) (by omega) ?_
    simp only [ws, hc 0 (by omega), hc 1 (by omega), List.length_cons, List.length_nil]
    omega
  · show behI [(f : Int) + (b : Int) * ((0 : Nat) : Int), (f : Int) + (b : Int) * ((1 : Nat) : Int), (f : Int) + (b : Int) * ((2 : Nat) : Int)] = _
    refine beh_is (d := 6) rfl rfl (by omega) (by omega) (by omega) ?_
    simp only [ws, hc 0 (by omega), hc 1 (by omega), hc 2 (by omega), List.length_cons, List.length_nil]
    omega
  · show behI [(f : Int) + (b : Int) * ((0 : Nat) : Int), (f : Int) + (b : Int) * ((1 : Nat) : Int), (f : Int) + (b : Int) * ((2 : Nat) : Int), (f : Int) + (b : Int) * ((3 : Nat) : Int)] = _
    refine beh_is (d := 12) rfl rfl (by omega) (by omega) (by omega) ?_
    simp only [ws, hc 0 (by omega), hc 1 (by omega), hc 2 (by omega), hc 3 (by omega), List.length_cons, List.length_nil]
    omega
  · show behI [(f : Int) + (b : Int) * ((0 : Nat) : Int), (f : Int) + (b : Int) * ((1 : Nat) : Int), (f : Int) + (b : Int) * ((2 : Nat) : Int), (f : Int) + (b : Int) * ((3 : Nat) : Int), (f : Int) + (b : Int) * ((4 : Nat) : Int)] = _
    refine beh_is (d := 20) rfl rfl (by omega) (by omega) (by omega) ?_
    simp only [ws, hc 0 (by omega), hc 1 (by omega), hc 2 (by omega), hc 3 (by omega), hc 4 (by omega), List.length_cons, List.length_nil]
    omega
  · show behI [(f : Int) + (b : Int) * ((0 : Nat) : Int), (f : Int) + (b : Int) * ((1 : Nat) : Int), (f : Int) + (b : Int) * ((2 : Nat) : Int), (f : Int) + (b : Int) * ((3 : Nat) : Int), (f : Int) + (b : Int) * ((4 : Nat) : Int), (f : Int) + (b : Int) * ((5 : Nat) : Int)] = _
    refine beh_is (d := 30) rfl rfl (by omega) (by omega) (by omega) ?_
    simp only [ws, hc 0 (by omega), hc 1 (by omega), hc 2 (by omega), hc 3 (by omega), hc 4 (by omega), hc 5 (by omega), List.length_cons, List.length_nil]
    omega
  · show behI [(f : Int) + (b : Int) * ((0 : Nat) : Int), (f : Int) + (b : Int) * ((1 : Nat) : Int), (f : Int) + (b : Int) * ((2 : Nat) : Int), (f : Int) + (b : Int) * ((3 : Nat) : Int), (f : Int) + (b : Int) * ((4 : Nat) : Int), (f : Int) + (b : Int) * ((5 : Nat) : Int), (f : Int) + (b : Int) * ((6 : Nat) : Int)] = _
    refine beh_is (d := 42) rfl rfl (by omega) (by omega) (by omega) ?_
    simp only [ws, hc 0 (by omega), hc 1 (by omega), hc 2 (by omega), hc 3 (by omega), hc 4 (by omega), hc 5 (by omega), hc 6 (by omega), List.length_cons, List.length_nil]
    omega
  · show behI [(f : Int) + (b : Int) * ((0 : Nat) : Int), (f : Int) + (b : Int) * ((1 : Nat) : Int), (f : Int) + (b : Int) * ((2 : Nat) : Int), (f : Int) + (b : Int) * ((3 : Nat) : Int), (f : Int) + (b : Int) * ((4 : Nat) : Int), (f : Int) + (b : Int) * ((5 : Nat) : Int), (f : Int) + (b : Int) * ((6 : Nat) : Int), (f : Int) + (b : Int) * ((7 : Nat) : Int)] = _
    refine beh_is (d := 56) rfl rfl (by omega) (by omega) (by omega) ?_
    simp only [ws, hc 0 (by omega), hc 1 (by omega), hc 2 (by omega), hc 3 (by omega), hc 4 (by omega), hc 5 (by omega), hc 6 (by omega), hc 7 (by omega), List.length_cons, List.length_nil]
    omega
  · show behI [(f : Int) + (b : Int) * ((1 : Nat) : Int), (f : Int) + (b : Int) * ((2 : Nat) : Int), (f : Int) + (b : Int) * ((3 : Nat) : Int), (f : Int) + (b : Int) * ((4 : Nat) : Int), (f : Int) + (b : Int) * ((5 : Nat) : Int), (f : Int) + (b : Int) * ((6 : Nat) : Int), (f : Int) + (b : Int) * ((7 : Nat) : Int), (f : Int) + (b : Int) * ((8 : Nat) : Int)] = _
    refine beh_is (d := 56) rfl rfl (by omega) (by omega) (by omega) ?_
    simp only [ws, hc 1 (by omega), hc 2 (by omega), hc 3 (by omega), hc 4 (by omega), hc 5 (by omega), hc 6 (by omega), hc 7 (by omega), hc 8 (by omega), List.length_cons, List.length_nil]
    omega

theorem line_down {f b q : Nat} (hf : f < 4294967296) (hb : b < 16777216) (hq : q < 7) {v : Int} (hv : v = if (f : Int) - (b : Int) < 0 then 0 else (f : Int) - (b : Int)) : nextI (lineD f b (q + 2) (q + 2)) = v := by
  have hc := on_line hf hb
  subst hv
  have h : q = 0 ∨ q = 1 ∨ q = 2 ∨ q = 3 ∨ q = 4 ∨ q = 5 ∨ q = 6 := by omega
  rcases h with rfl | rfl | rfl | rfl | rfl | rfl | rfl
  · show behI [(f : Int) + (b : Int) * ((1 : Nat) : Int), (f : Int) + (b : Int) * ((0 : Nat) : Int)] = _
    split
    · refine beh_low _ rfl ?_
      simp only [ws, hc 0 (by omega), hc 1 (by omega), List.length_cons, List.length_nil]
      omega
    · refine beh_is (d := 2) rfl rfl (by omega) (by omega) (by omega) ?_
      simp only [ws, hc 0 (by omega), hc 1 (by omega), List.length_cons, List.length_nil]
      omega
  · show behI [(f : Int) + (b : Int) * ((2 : Nat) : Int), (f : Int) + (b : Int) * ((1 : Nat) : Int), (f : Int) + (b : Int) * ((0 : Nat) : Int)] = _
    split
    · refine beh_low _ rfl ?_
      simp only [ws, hc 0 (by omega), hc 1 (by omega), hc 2 (by omega), List.length_cons, List.length_nil]
      omega
    · refine beh_is (d := 6) rfl rfl (by omega) (by omega) (by omega) ?_
      simp only [ws, hc 0 (by omega), hc 1 (by omega), hc 2 (by omega), List.length_cons, List.length_nil]
      omega
  · show behI [(f : Int) + (b : Int) * ((3 : Nat) : Int), (f : Int) + (b : Int) * ((2 : Nat) : Int), (f : Int) + (b : Int) * ((1 : Nat) : Int), (f : Int) + (b : Int) * ((0 : Nat) : Int)] = _
    split
    · refine beh_low _ rfl ?_
      simp only [ws, hc 0 (by omega), hc 1 (by omega), hc 2 (by omega), hc 3 (by omega), List.length_cons, List.length_nil]
      omega
    · refine beh_is (d := 12) rfl rfl (by omega) (by omega) (by omega) ?_
      simp only [ws, hc 0 (by omega), hc 1 (by omega), hc 2 (by omega), hc 3 (by omega), List.length_cons, List.length_nil]
      omega
  · show behI [(f : Int) + (b : Int) * ((4 : Nat) : Int), (f : Int) + (b : Int) * ((3 : Nat) : Int), (f : Int) + (b : Int) * ((2 : Nat) : Int), (f : Int) + (b : Int) * ((1 : Nat) : Int), (f : Int) + (b : Int) * ((0 : Nat) : Int)] = _
    split
    · refine beh_low _ rfl ?_
      simp only [ws, hc 0 (by omega), hc 1 (by omega), hc 2 (by omega), hc 3 (by omega), hc 4 (by omega), List.length_cons, List.length_nil]
      omega
    · refine beh_is (d := 20) rfl rfl (by omega) (by omega) (by omega) ?_
      simp only [ws, hc 0 (by omega), hc 1 (by omega), hc 2 (by omega), hc 3 (by omega), hc 4 (by omega), List.length_cons, List.length_nil]
      omega
  · show behI [(f : Int) + (b : Int) * ((5 : Nat) : Int), (f : Int) + (b : Int) * ((4 : Nat) : Int), (f : Int) + (b : Int) * ((3 : Nat) : Int), (f : Int) + (b : Int) * ((2 : Nat) : Int), (f : Int) + (b : Int) * ((1 : Nat) : Int), (f : Int) + (b : Int) * ((0 : Nat) : Int)] = _
    split
    · refine beh_low _ rfl ?_
      simp only [ws, hc 0 (by omega), hc 1 (by omega), hc 2 (by omega), hc 3 (by omega), hc 4 (by omega), hc 5 (by omega), List.length_cons, List.length_nil]
      omega
    · refine beh_is (d := 30) rfl rfl (by omega) (by omega) (by omega) ?_
      simp only [ws, hc 0 (by omega), hc 1 (by omega), hc 2 (by omega), hc 3 (by omega), hc 4 (by omega), hc 5 (by omega), List.length_cons, List.length_nil]
      omega
  · show behI [(f : Int) + (b : Int) * ((6 : Nat) : Int), (f : Int) + (b : Int) * ((5 : Nat) : Int), (f : Int) + (b : Int) * ((4 : Nat) : Int), (f : Int) + (b : Int) * ((3 : Nat) : Int), (f : Int) + (b : Int) * ((2 : Nat) : Int), (f : Int) + (b : Int) * ((1 : Nat) : Int), (f : Int) + (b : Int) * ((0 : Nat) : Int)] = _
    split
    · refine beh_low _ rfl ?_
      simp only [ws, hc 0 (by omega), hc 1 (by omega), hc 2 (by omega), hc 3 (by omega), hc 4 (by omega), hc 5 (by omega), hc 6 (by omega), List.length_cons, List.length_nil]
      omega
    · refine beh_is (d := 42) rfl rfl (by omega) (by omega) (by omega) ?_
      simp only [ws, hc 0 (by omega), hc 1 (by omega), hc 2 (by omega), hc 3 (by omega), hc 4 (by omega), hc 5 (by omega), hc 6 (by omega), List.length_cons, List.length_nil]
      omega
  · show behI [(f : Int) + (b : Int) * ((7 : Nat) : Int), (f : Int) + (b : Int) * ((6 : Nat) : Int), (f : Int) + (b : Int) * ((5 : Nat) : Int), (f : Int) + (b : Int) * ((4 : Nat) : Int), (f : Int) + (b : Int) * ((3 : Nat) : Int), (f : Int) + (b : Int) * ((2 : Nat) : Int), (f : Int) + (b : Int) * ((1 : Nat) : Int), (f : Int) + (b : Int) * ((0 : Nat) : Int)] = _
    split
    · refine beh_low _ rfl ?_
      simp only [ws, hc 0 (by omega), hc 1 (by omega), hc 2 (by omega), hc 3 (by omega), hc 4 (by omega), hc 5 (by omega), hc 6 (by omega), hc 7 (by omega), List.length_cons, List.length_nil]
      omega
    · refine beh_is (d := 56) rfl rfl (by omega) (by omega) (by omega) ?_
      simp only [ws, hc 0 (by omega), hc 1 (by omega), hc 2 (by omega), hc 3 (by omega), hc 4 (by omega), hc 5 (by omega), hc 6 (by omega), hc 7 (by omega), List.length_cons, List.length_nil]
      omega

set_option maxRecDepth 100000 in
set_option maxHeartbeats 3200000 in
theorem lines_law (n x y : Int) (w : World) :
    Calls Try.prog 4 #[.int .i64 n, .int .i64 x, .int .i64 y] w fun e w' => e = .returned (.bool true) ∧ Below w.heap.size w w' := by
  obtain ⟨i0, hi, hz0, hz1, hz2⟩ := info_parts infoI
  obtain ⟨q, hq, q8⟩ := and_nat n 7 3 8 (by decide) (by decide) (by decide)
  obtain ⟨f, hf, f1⟩ := and_nat x 4294967295 32 4294967296 (by decide) (by decide) (by decide)
  obtain ⟨b, hb, b1⟩ := and_nat y 16777215 24 16777216 (by decide) (by decide) (by decide)
  have f2 : (f : Int) < 4294967296 := by omega
  have b2 : (b : Int) < 16777216 := by omega
  have E1 := Lib.hid (line_up f1 b1 q8)
  have bq0 : 0 ≤ (b : Int) * (2 + (q : Int)) := Int.mul_nonneg (by omega) (by omega)
  have bq1 : (b : Int) * (2 + (q : Int)) ≤ (b : Int) * 9 := Int.mul_le_mul_of_nonneg_left (by omega) (by omega)
  go_enter Try.func4, Try.ntmps4
  go_wp2_with fail
  refine (head_true _).mono ?_
  rintro e w1 ⟨rfl, hb1⟩
  go_wp2_with fail
  go_loopg [7, 8] (q + 2) (fun gk vs vi wr => ∃ i g cap : Nat, vi = .int .i64 (i : Int) ∧ vs = .slice (some ⟨g, 0, none⟩) i cap ∧ i + gk = q + 2 ∧ wr.ownsRow w.heap.size 2 1 (.slice (some ⟨g, 0, none⟩) i cap) i (ints (lineU f b i)) ∧ Below w.heap.size w wr)
  case atStart => exact ⟨0, w1.heap.size, 0, rfl, rfl, by omega, own_empty hb1.size, hb1.alloc hb1.size _⟩
  case round =>
    obtain ⟨i, g, cap, rfl, rfl, hik, own, hbz⟩ := hrel
    have HIK := Lib.hid hik
    have hsz := hbz.size
    clear hb1
    by_cases hlt : i < q + 2
    · have hltI : (i : Int) < 2 + (q : Int) := by omega
      have bi0 : 0 ≤ (b : Int) * (i : Int) := Int.mul_nonneg (by omega) (by omega)
      have bi1 : (b : Int) * (i : Int) ≤ (b : Int) * 9 := Int.mul_le_mul_of_nonneg_left (by omega) (by omega)
      clear hik
      go_wp2_with (at_builtin; refine wpList_app1 rfl (.tmp 27) (.tmp 33) 22 rfl w.heap.size 2 i0 (.int .i64 0) 8 Try.underlying22 hi hz0 hz1 hz2 rfl (.slice (some ⟨g, 0, none⟩) i cap) i (ints (lineU f b i)) rfl own (.int .i64 ((f : Int) + (b : Int) * (i : Int))) _ rfl _ rfl rfl (by omega) (by omega) hsz ?_; intro g' cap' w' own' hg' _ _)
      have hb' := hbz.grown hg' hsz (fun j hj => by simp [Value.ownBlock] at hj; have := (own_cap own).2.2; omega)
      have own2 : w'.ownsRow w.heap.size 2 1 (.slice (some ⟨g', 0, none⟩) (i + 1) cap') (i + 1) (ints (lineU f b (i + 1))) := by
        rw [lineU_snoc]; simpa using own'
      clear own hbz hg' own' hsz
      go_roundg (gk - 1)
      case measure => have := HIK.out; omega
      case rel => exact ⟨i + 1, g', cap', by go_num, rfl, by have := HIK.out; omega, own2, hb'⟩
    · have HI := Lib.hid (show i = q + 2 by omega)
      have hi9 : i ≤ 9 := by omega
      have hnl : decide ((i : Int) < 2 + (q : Int)) = false := by simp; omega
      clear hik HIK hlt
      go_wp2_with fail
      refine (next_any _ _ i cap (lineU f b i) _ (by rw [lineU_len]) (own_cap own).1 (own_max own) (lies_own own)).mono ?_
      rintro e w3 ⟨rfl, q3, hw3⟩
      rw [HI.out, E1.out, ← HI.out]
      have hself : ((f : Int) + (b : Int) * (2 + (q : Int)) != (f : Int) + (b : Int) * (2 + (q : Int))) = false := by simp
      have hb3 := below_next hbz hw3
      have hL3 := lies_next (lies_own own) hw3
      have hs3 := hb3.size
      have hsz3 : w3.heap.size = wr.heap.size := by rw [hw3]; rfl
      rw [← hsz3] at hL3
      clear hw3 hbz own hsz hsz3
      obtain ⟨s, hs⟩ : ∃ s, w3.heap.size = s := ⟨_, rfl⟩
      have hL4 : Lies (w3.alloc (.cells #[] 2)) s (some ⟨g, 0, none⟩) (ints (lineU f b i)) := by rw [← hs]; exact hL3.keep fun b hb => Below.heap_alloc _ _ _ hb
      have own4 : (w3.alloc (.cells #[] 2)).ownsRow s 2 1 (.slice (some ⟨s, 0, none⟩) 0 0) 0 [] := by rw [← hs]; exact own_empty (Nat.le_refl _)
      have hb4 : Below w.heap.size w (w3.alloc (.cells #[] 2)) := hb3.alloc hs3 _
      have hsw : w.heap.size ≤ s := by rw [← hs]; exact hs3
      have hs4 : s ≤ (w3.alloc (.cells #[] 2)).heap.size := by rw [← hs]; simp
      have hgs := Lib.hid hs
      clear hs hL3 hb3 hs3
      go_wp2_with fail
      rw [hgs.out]
      clear hgs
      go_loopg [9, 10] i (fun gk vs vi wr => ∃ j g2 cap2 : Nat, vi = .int .i64 (j : Int) ∧ vs = .slice (some ⟨g2, 0, none⟩) j cap2 ∧ j + gk = i ∧ wr.ownsRow s 2 1 (.slice (some ⟨g2, 0, none⟩) j cap2) j (ints (lineD f b i j)) ∧ Lies wr s (some ⟨g, 0, none⟩) (ints (lineU f b i)) ∧ Below w.heap.size w wr ∧ s ≤ wr.heap.size)
      case atStart => exact ⟨0, s, 0, rfl, rfl, by omega, own4, hL4, hb4, hs4⟩
      case round =>
        clear own4 hL4 hb4 hs4
        obtain ⟨j, g2, cap2, rfl, rfl, hjk, own, hL, hbz, hsz⟩ := hrel
        have HJK := Lib.hid hjk
        by_cases hlt : j < i
        · have hltI : (j : Int) < 2 + (q : Int) := by have := HI.out; omega
          obtain ⟨p, hp⟩ : ∃ p, i - 1 - j = p := ⟨_, rfl⟩
          have hpI : (2 : Int) + (q : Int) - 1 - (j : Int) = (p : Int) := by have := HI.out; omega
          have hpi : p < i := by omega
          obtain ⟨ad, z, e1, _, hz, hcz⟩ := hL.int (i := p) (by rw [lineU_len]; exact hpi)
          injection e1 with e1
          subst e1
          rw [lineU_at hpi] at hz
          injection hz with hz
          subst hz
          rw [add_lit0] at hcz
          obtain ⟨z, hz⟩ : ∃ z, (f : Int) + (b : Int) * (p : Int) = z := ⟨_, rfl⟩
          rw [hz] at hcz
          have HZ := Lib.hid hz
          have HP := Lib.hid hp
          clear hjk hz hp
          go_wp2_with (at_builtin; refine wpList_app1 rfl (.tmp 49) (.tmp 57) 22 rfl s 2 i0 (.int .i64 0) 8 Try.underlying22 hi hz0 hz1 hz2 rfl (.slice (some ⟨g2, 0, none⟩) j cap2) j (ints (lineD f b i j)) rfl own (.int .i64 z) _ rfl _ rfl rfl (by omega) (by omega) hsz ?_; intro g' cap' w' own' hg' _ _)
          have hg2s := (own_cap own).2.2
          have hb' := hbz.grown hg' hbz.size (fun j hj => by simp [Value.ownBlock] at hj; omega)
          have hL' : Lies w' s (some ⟨g, 0, none⟩) (ints (lineU f b i)) := hL.keep fun c hc => hg'.block c (by omega) (by simp [Value.ownBlock]; omega)
          have hs' : s ≤ w'.heap.size := by have := hg'.size; omega
          have own2 : w'.ownsRow s 2 1 (.slice (some ⟨g', 0, none⟩) (j + 1) cap') (j + 1) (ints (lineD f b i (j + 1))) := by
            rw [lineD_snoc, HP.out, HZ.out]; simpa using own'
          clear own hbz hg' own' hsz hL hcz hpI
          go_roundg (gk - 1)
          case measure => have := HJK.out; omega
          case rel => exact ⟨j + 1, g', cap', by go_num, rfl, by have := HJK.out; omega, own2, hL', hb', hs'⟩
        · have HJ := Lib.hid (show j = i by omega)
          have hnl2 : decide ((j : Int) < 2 + (q : Int)) = false := by have := HI.out; simp; omega
          clear hjk HJK hlt hL hsz
          by_cases h7 : q < 7
          · have h7i : decide ((8 : Int) < 2 + (q : Int)) = false := by simp; omega
            by_cases hneg : (f : Int) - (b : Int) < 0
            · have E2 := Lib.hid (line_down (v := 0) f1 b1 h7 (by rw [if_pos hneg]))
              go_wp2_with fail
              refine (next_any _ _ j cap2 (lineD f b i j) _ (by rw [lineD_len]) (own_cap own).1 (own_max own) (lies_own own)).mono ?_
              rintro e w5 ⟨rfl, q5, hw5⟩
              rw [HJ.out, HI.out, E2.out]
              have hb5 := below_next hbz hw5
              clear hw5
              go_wp2_with fail
              go_ret
              exact ⟨rfl, hb5⟩
            · have E2 := Lib.hid (line_down (v := (f : Int) - (b : Int)) f1 b1 h7 (by rw [if_neg hneg]))
              have hng : decide ((f : Int) - (b : Int) < 0) = false := by simp; omega
              clear hneg
              go_wp2_with fail
              refine (next_any _ _ j cap2 (lineD f b i j) _ (by rw [lineD_len]) (own_cap own).1 (own_max own) (lies_own own)).mono ?_
              rintro e w5 ⟨rfl, q5, hw5⟩
              rw [HJ.out, HI.out, E2.out]
              have hb5 := below_next hbz hw5
              have hself2 : ((f : Int) - (b : Int) == (f : Int) - (b : Int)) = true := by simp
              clear hw5
              go_wp2_with fail
              go_ret
              exact ⟨rfl, hb5⟩
          · have h7i : decide ((8 : Int) < 2 + (q : Int)) = true := by simp; omega
            by_cases hneg : (f : Int) - (b : Int) < 0
            · go_wp2_with fail
              go_ret
              exact ⟨rfl, hbz⟩
            · have hng : decide ((f : Int) - (b : Int) < 0) = false := by simp; omega
              clear hneg
              go_wp2_with fail
              go_ret
              exact ⟨rfl, hbz⟩
end Go.Proofs.Ythefbehfnaelbaa.W
