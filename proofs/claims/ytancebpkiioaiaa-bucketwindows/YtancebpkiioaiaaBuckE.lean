/- The law BucketWindows: its walk. -/
import Derived.Test.YtancebpkiioaiaaBuckD
namespace Go.Proofs.Ytancebpkiioaiaa.W
open Go.RowKit

theorem infoInt : (Try.prog.info? 3).map (fun i => (i.zero, i.size, i.bytes)) = some (some (.int .i64 0), 1, 8) := by kernel_rfl

/-- How many tokens there are ahead of the takes of each tick. -/
def tkN (s r : Nat) (n : Nat → Nat) : Nat → Nat
  | 0 => s
  | j + 1 => min (tkN s r n j - min (n j) (tkN s r n j) + r) s
/-- How many of these are true. -/
def gN (s r : Nat) (n : Nat → Nat) (j : Nat) : Nat := min (n j) (tkN s r n j)
/-- So many of them from one on, together. -/
def sm (G : Nat → Nat) (a : Nat) : Nat → Nat
  | 0 => 0
  | w + 1 => sm G a w + G (a + w)
theorem tkN_le (s r : Nat) (n : Nat → Nat) : ∀ j, tkN s r n j ≤ s
  | 0 => Nat.le_refl _
  | j + 1 => by unfold tkN; omega
theorem sm_tk (s r : Nat) (n : Nat → Nat) (a : Nat) : ∀ w, sm (gN s r n) a w + tkN s r n (a + w) ≤ s + r * w
  | 0 => by have := tkN_le s r n a; simp [sm]; omega
  | w + 1 => by
    have h := sm_tk s r n a w
    have e : tkN s r n (a + (w + 1)) = min (tkN s r n (a + w) - min (n (a + w)) (tkN s r n (a + w)) + r) s := rfl
    rw [e, sm, Nat.mul_succ]
    unfold gN at *
    generalize tkN s r n (a + w) = t at *
    generalize r * w = y at *
    omega
theorem sm_le (s r : Nat) (n : Nat → Nat) (a w : Nat) : sm (gN s r n) a w + gN s r n (a + w) ≤ s + r * w := by
  have h := sm_tk s r n a w
  unfold gN at *
  generalize r * w = y at *
  omega
def gl (G : Nat → Nat) (i : Nat) : List Int := (List.range i).map (fun j => (G j : Int))
theorem gl_len (G : Nat → Nat) (i : Nat) : (gl G i).length = i := by simp [gl]
theorem gl_succ (G : Nat → Nat) (i : Nat) : ints (gl G i) ++ [Value.int .i64 (G i : Int)] = ints (gl G (i + 1)) := by simp [gl, List.range_succ]
theorem gl_at (G : Nat → Nat) {i j : Nat} (h : j < i) : (gl G i)[j]? = some (G j : Int) := by simp [gl, h]

set_option maxRecDepth 100000 in
set_option maxHeartbeats 3200000 in
theorem windows_walk (x0 x1 : Int) (a0 : Option Addr) (k cap : Nat) (xs : List Int) (hl : xs.length = k) (_hc : k ≤ cap) (w : World) (L : Lies w w.heap.size a0 (ints xs)) :
    Calls Try.prog 4 #[.int .i64 x0, .int .i64 x1, .slice a0 k cap] w fun e w' => e = .returned (.bool true) ∧ Below w.heap.size w w' := by
  obtain ⟨i0, hi0, hz0, hz1, hz2⟩ := info_parts infoInt
  have HL := Lib.hid hl
  clear hl
  by_cases hk : 60 < k
  · have hki : decide ((60 : Int) < (k : Int)) = true := by simp; omega
    go_enter Try.func4, Try.ntmps4
    go_wp2_with fail
    refine (head10 _).mono ?_
    rintro e w1 ⟨rfl, b1⟩
    go_wp2_with fail
    go_ret
    exact ⟨rfl, b1⟩
  · have hki : decide ((60 : Int) < (k : Int)) = false := by simp; omega
    have hk60 := Lib.hid (show k ≤ 60 by omega)
    obtain ⟨s, hs, hs1⟩ := and_nat x0 63 6 64 (by decide) (by decide) (by decide)
    obtain ⟨r, hr, hr1⟩ := and_nat x1 15 4 16 (by decide) (by decide) (by decide)
    have hsI : (s : Int) < 64 := by omega
    have hrI : (r : Int) < 16 := by omega
    go_enter Try.func4, Try.ntmps4
    go_wp2_with fail
    refine (head10 _).mono ?_
    rintro e w1 ⟨rfl, b1⟩
    go_wp2_with fail
    refine (b_new (s : Int) (r : Int) w1).mono ?_
    rintro e w2 ⟨rfl, h2, b2⟩
    rw [bnd_nat (by omega), bnd_nat (by omega)] at h2
    obtain ⟨b, hb⟩ : ∃ b, w1.heap.size = b := ⟨_, rfl⟩
    have bb2 := b1.trans (b2.mono b1.size)
    have hlb : w.heap.size ≤ b := by rw [← hb]; exact b1.size
    rw [hb] at h2
    rw [hb]
    clear hb b1 b2 hs hr hk
    obtain ⟨n, hn⟩ : ∃ n : Nat → Nat, ∀ j, bits .and .i64 (xs.getD j 0) 63 = (n j : Int) ∧ n j < 64 := ⟨fun j => (xs.getD j 0 % 64).toNat, fun j => by
      rw [and_mask _ 63 6 64 (by decide) (by decide) (by decide)]
      show _ = (((xs.getD j 0 % 64).toNat : Nat) : Int) ∧ (xs.getD j 0 % 64).toNat < 64
      omega⟩
    go_wp2_with fail
    clear hki
    go_loopg [8, 32] k (fun gk v8 vi wr => ∃ (i g cp : Nat), v8 = .slice (some ⟨g, 0, none⟩) i cp ∧ vi = .int .i64 (i : Int) ∧ i + gk = k ∧ wr.ownsRow w.heap.size 3 1 (.slice (some ⟨g, 0, none⟩) i cp) i (ints (gl (gN s r n) i)) ∧ Bk wr b s r (tkN s r n i) ∧ g ≠ b ∧ Below w.heap.size w wr)
    case atStart =>
      refine ⟨0, w2.heap.size, 0, rfl, rfl, by omega, own_empty bb2.size, ?_, by have := h2.lt; omega, bb2.alloc bb2.size _⟩
      exact h2.keep ((Below.refl _ _).alloc (Nat.le_refl _) _) h2.lt
    case round =>
      clear h2 bb2
      obtain ⟨i, g, cp, rfl, rfl, hik, own, hz, hne, bz⟩ := hrel
      have HIK := Lib.hid hik
      by_cases hi : i < k
      · obtain ⟨ad, x, hA, hadb, hx, hcell⟩ := (L.below bz (Nat.le_refl _)).int (i := i) (by rw [HL.out]; exact hi)
        subst hA
        obtain ⟨m, hm⟩ : ∃ m, n i = m := ⟨_, rfl⟩
        have hnm : bits .and .i64 x 63 = (m : Int) := by have := (hn i).1; rw [List.getD_eq_getElem?_getD, hx] at this; rw [← hm]; exact this
        have hm64 : (m : Int) < 64 := by have := (hn i).2; omega
        have HM := Lib.hid hm
        have HX := Lib.hid hx
        clear hm hx hik
        obtain ⟨t, ht⟩ : ∃ t, tkN s r n i = t := ⟨_, rfl⟩
        rw [ht] at hz
        have HT := Lib.hid ht
        clear ht
        go_wp2_with fail
        clear hcell
        go_loopg [11, 12] m (fun gk v11 v12 wr => ∃ (j c : Nat), v11 = .int .i64 (c : Int) ∧ v12 = .int .i64 (j : Int) ∧ j + gk = m ∧ c = min j t ∧ wr.ownsRow w.heap.size 3 1 (.slice (some ⟨g, 0, none⟩) i cp) i (ints (gl (gN s r n) i)) ∧ Bk wr b s r (t - j) ∧ Below w.heap.size w wr)
        case atStart => exact ⟨0, 0, rfl, rfl, by omega, by omega, own, hz, bz⟩
        case round =>
          clear own hz bz
          obtain ⟨j, c, rfl, rfl, hjk, hcj, own, hz, bz⟩ := hrel
          have HJK := Lib.hid hjk
          have HCJ := Lib.hid hcj
          have hcI : (c : Int) ≤ 1000 := by have := hz.1; have := hz.2.2.1; omega
          clear hcj
          by_cases hj : j < m
          · clear hjk
            go_wp2_with fail
            refine (b_take b s r _ _ hz).mono ?_
            rintro e w3 ⟨rfl, h3, g3⟩
            rw [Nat.sub_sub] at h3
            have b3 := below_row bz hlb g3 bz.size
            have own3 := own_off own g3 hne
            by_cases h0 : 0 < t - j
            · have d1 : decide (0 < t - j) = true := by simpa using h0
              rw [d1]
              have HT0 := Lib.hid h0
              clear d1 h0
              go_wp2_with fail
              go_roundg (gk - 1)
              case measure => have := HJK.out; omega
              case rel => exact ⟨j + 1, c + 1, by go_num, by go_num, by have := HJK.out; omega, by have := HCJ.out; have := HT0.out; omega, own3, h3, b3⟩
            · have d1 : decide (0 < t - j) = false := by simpa using h0
              rw [d1]
              have HT0 := Lib.hid h0
              clear d1 h0
              go_wp2_with fail
              go_roundg (gk - 1)
              case measure => have := HJK.out; omega
              case rel => exact ⟨j + 1, c, rfl, by go_num, by have := HJK.out; omega, by have := HCJ.out; have := HT0.out; omega, own3, h3, b3⟩
          · obtain rfl : j = m := by omega
            clear hjk HJK hj
            have hsz := bz.size
            have hk60' := hk60.out
            go_wp2_with (at_builtin; refine wpList_app1 rfl (.tmp 46) (.tmp 48) 32 rfl w.heap.size 3 i0 (.int .i64 0) 8 Try.underlying32 hi0 hz0 hz1 hz2 rfl (.slice (some ⟨g, 0, none⟩) i cp) i (ints (gl (gN s r n) i)) rfl own (.int .i64 (c : Int)) _ rfl _ rfl rfl (by omega) (by omega) hsz ?_; intro g' cp' w4 own4 hg4 hat4 hlt4)
            have hz4 := hz.off hg4 (Ne.symm hne)
            have b4 := bz.grown hg4 hsz (fun q hq => by simp [Value.ownBlock] at hq; have := (own_cap own).2.2; omega)
            have hne4 : g' ≠ b := by
              rcases hat4 with h | h
              · simp [Value.ownBlock] at h; omega
              · have := hz.lt; omega
            have eg : gN s r n i = c := by unfold gN; rw [HM.out, HT.out]; exact HCJ.out.symm
            rw [← eg, gl_succ] at own4
            clear own hz hat4 hlt4 hg4
            refine (b_tick b s r _ _ hz4).mono ?_
            rintro e w5 ⟨rfl, h5, g5⟩
            have b5 := below_row b4 hlb g5 b4.size
            have own5 := own_off own4 g5 hne4
            have et : tkN s r n (i + 1) = min (t - j + r) s := by
              show min (tkN s r n i - min (n i) (tkN s r n i) + r) s = _
              rw [HM.out, HT.out]; omega
            rw [← et] at h5
            go_wp2_with fail
            go_roundg (k - i - 1)
            case measure => have := HIK.out; omega
            case rel => exact ⟨i + 1, g', cp', by go_num, by go_num, by have := HIK.out; omega, own5, h5, hne4, b5⟩
      · obtain rfl : i = k := by omega
        clear hik HIK hi hz
        go_wp2_with fail
        go_loopg [55] i (fun gk vi wz => ∃ (j : Nat), vi = .int .i64 (j : Int) ∧ j + gk = i ∧ wr = wz)
        case atStart => exact ⟨0, rfl, by omega, rfl⟩
        case round =>
          obtain ⟨j, rfl, hjk, rfl⟩ := hrel
          have HJK := Lib.hid hjk
          by_cases hj : j < i
          · clear hjk
            have hic := (own_cap own).1
            have hjle : j ≤ i := Nat.le_of_lt hj
            have hiI : (i : Int) ≤ 60 := by have := hk60.out; omega
            go_wp2_with (with_reducible refine wpList_from rfl (.tmp 58) (.tmp 59) 32 rfl 3 i0 Try.underlying32 hi0 hz1 (some ⟨g, 0, none⟩) i cp j .i64 rfl rfl hjle hic ?_; intro A' HA')
            have LD := (lies_own own).drop j A' (fun h => by
              rcases HA'.out with h' | h'
              · exact h'
              · omega)
            rw [← List.map_drop] at LD
            obtain ⟨d, hd⟩ : ∃ d, i - j = d := ⟨_, rfl⟩
            rw [hd]
            have HD := Lib.hid hd
            clear hd
            go_wp2_with fail
            go_loopg [14, 62] d (fun gk v14 vi wz => ∃ (q p : Nat), v14 = .int .i64 (p : Int) ∧ vi = .int .i64 (q : Int) ∧ q + gk = d ∧ p = sm (gN s r n) j q ∧ wr = wz)
            case atStart => exact ⟨0, 0, rfl, rfl, by omega, rfl, rfl⟩
            case round =>
              obtain ⟨q, p, rfl, rfl, hqk, hp, rfl⟩ := hrel
              have HQK := Lib.hid hqk
              have HP := Lib.hid hp
              clear hp
              by_cases hq : q < d
              · obtain ⟨ad, x, hA, _, hx, hcell⟩ := LD.int (i := q) (by rw [List.length_drop, gl_len]; have := HD.out; omega)
                rw [List.getElem?_drop, gl_at _ (by have := HD.out; omega)] at hx
                cases hx
                obtain ⟨u, hu⟩ : ∃ u, gN s r n (j + q) = u := ⟨_, rfl⟩
                have hsum := sm_le s r n j q
                rw [← HP.out, hu] at hsum
                rw [hu] at hcell
                have HU := Lib.hid hu
                obtain ⟨y, hy⟩ : ∃ y, r * q = y := ⟨_, rfl⟩
                rw [hy] at hsum
                have hd60 : d ≤ 60 := by have := hk60.out; have := HD.out; omega
                have hdI : (d : Int) ≤ 60 := by omega
                have hy9 : y ≤ 15 * 60 := by rw [← hy]; exact Nat.mul_le_mul (by omega) (by omega)
                have hyI : (y : Int) ≤ 900 := by omega
                have hmul : (r : Int) * (q : Int) = (y : Int) := by rw [← hy]; simp
                have hpI : (p : Int) ≤ 1000 := by omega
                have huI : (u : Int) ≤ 1000 := by omega
                have hdec : decide ((s : Int) + (y : Int) < (p : Int) + (u : Int)) = false := by simp; omega
                have hqI : (q : Int) < (d : Int) := by omega
                have HYY := Lib.hid hy
                subst hA
                clear hu hy hsum hqk hy9 hd60
                go_wp2_with fail
                go_roundg (gk - 1)
                case measure => have := HQK.out; omega
                case rel => exact ⟨q + 1, p + u, by go_num, by go_num, by have := HQK.out; omega, by rw [sm, ← HP.out, HU.out], rfl⟩
              · clear hqk
                go_wp2_with fail
                go_roundg (i - j - 1)
                case measure => have := HJK.out; omega
                case rel => exact ⟨j + 1, by go_num, by have := HJK.out; omega, rfl⟩
          · clear hjk
            go_wp2_with fail
            go_ret
            exact ⟨rfl, bz⟩

end Go.Proofs.Ytancebpkiioaiaa.W
