/- The laws TallyMosts, TallySums and TallyActs: their walks. -/
import Derived.Test.YtkldoeillkfpbaaTalA
import Derived.Test.YtkldoeillkfpbaaActs
import Derived.Deep.DeepCutAuto
import Derived.Deep.CutBlock
namespace Go.Proofs.Ytkldoeillkfpbaa.W
open Go.RowKit

/-- The greatest of all and nought. -/
def mxs : List Int → Int
  | [] => 0
  | x :: l => max x (mxs l)
theorem mxs_snoc (l : List Int) (x : Int) : mxs (l ++ [x]) = max (mxs l) x := by
  induction l with
  | nil => show max x 0 = max 0 x; omega
  | cons a l ih => show max a (mxs (l ++ [x])) = max (max a (mxs l)) x; rw [ih]; omega
theorem mxs_step {xs : List Int} {i : Nat} {x : Int} (h : xs[i]? = some x) : mxs (xs.take (i + 1)) = max (mxs (xs.take i)) x := by rw [take_snoc h, mxs_snoc]
theorem drop_cons {xs : List Int} {i : Nat} {x : Int} (h : xs[i]? = some x) : xs.drop i = x :: xs.drop (i + 1) := by
  obtain ⟨hi, e⟩ := List.getElem?_eq_some_iff.1 h
  rw [List.drop_eq_getElem_cons hi, e]
theorem mxs_back {xs : List Int} {k i j : Nat} {x : Int} (h : xs[j]? = some x) (hj : j + 1 + i = k) : mxs (xs.drop (k - (i + 1))) = max (mxs (xs.drop (k - i))) x := by
  rw [show k - (i + 1) = j by omega, show k - i = j + 1 by omega, drop_cons h]
  show max x _ = _
  omega
theorem cn_new (w : World) : Cn (w.alloc (.cells #[.int .i64 0] 56)) w.heap.size 0 := ⟨⟨by decide, by decide⟩, heap_alloc_new w _⟩

set_option maxRecDepth 100000 in
set_option maxHeartbeats 3200000 in
theorem mosts_walk (a0 : Option Addr) (k cap : Nat) (xs : List Int) (hl : xs.length = k) (_hc : k ≤ cap) (w : World) (L : Lies w w.heap.size a0 (ints xs)) (wf : ∀ z ∈ xs, (Lit.int .i64 z).wf = true) :
    Calls Try.prog 9 #[.slice a0 k cap] w fun e w' => e = .returned (.bool true) ∧ Below w.heap.size w w' := by
  have HL := Lib.hid hl
  clear hl
  by_cases hk : 100 < k
  · have hki : decide ((100 : Int) < (k : Int)) = true := by simp; omega
    go_enter Try.func9, Try.ntmps9
    go_wp2_with fail
    refine (head15 _).mono ?_
    rintro e w1 ⟨rfl, b1⟩
    go_wp2_with fail
    go_ret
    exact ⟨rfl, b1⟩
  have hki : decide ((100 : Int) < (k : Int)) = false := by simp; omega
  have hkI : (k : Int) ≤ 100 := by omega
  go_enter Try.func9, Try.ntmps9
  go_wp2_with fail
  refine (head15 _).mono ?_
  rintro e w1 ⟨rfl, b1⟩
  go_upto_region 6 with (fail)
  have h2 := cn_new w1
  have bb2 : Below w.heap.size w (w1.alloc (.cells #[.int .i64 0] 56)) := b1.alloc b1.size _
  obtain ⟨a, ha⟩ : ∃ a, w1.heap.size = a := ⟨_, rfl⟩
  have hla : w.heap.size ≤ a := by rw [← ha]; exact b1.size
  rw [ha] at h2
  try rw [ha]
  generalize w1.alloc (.cells #[.int .i64 0] 56) = w2 at h2 bb2 ⊢
  clear ha b1
  have h3 := cn_new w2
  have hg3 := World.grownBy_alloc w2 (.cells #[.int .i64 0] 56) none
  have bb3 : Below w.heap.size w (w2.alloc (.cells #[.int .i64 0] 56)) := bb2.alloc bb2.size _
  have h2' : Cn (w2.alloc (.cells #[.int .i64 0] 56)) a 0 := ⟨h2.1, by rw [hg3.block a h2.lt (by simp)]; exact h2.2⟩
  obtain ⟨b, hb⟩ : ∃ b, w2.heap.size = b := ⟨_, rfl⟩
  have hlb : w.heap.size ≤ b := by rw [← hb]; exact bb2.size
  have hab : a ≠ b := by have := h2.lt; omega
  rw [hb] at h3
  clear h2 hg3 bb2
  go_upto_region 7 with (fail)
  try rw [hb]
  generalize w2.alloc (.cells #[.int .i64 0] 56) = w3 at h3 h2' bb3 ⊢
  clear hb hki hk
  go_wp2_with fail
  go_loopg [5, 18] k (fun gk v5 vi wr => ∃ (i : Nat) (m n : Int), v5 = .int .i64 m ∧ vi = .int .i64 (i : Int) ∧ i + gk = k ∧ Hid (m = mxs (xs.take i)) ∧ Hid (n = mxs (xs.drop (k - i))) ∧ Cn wr a m ∧ Cn wr b n ∧ Below w.heap.size w wr)
  case atStart => exact ⟨0, 0, 0, rfl, rfl, by omega, Lib.hid rfl, Lib.hid (by rw [← HL.out]; simp [mxs]), h2', h3, bb3⟩
  case round =>
    clear h2' h3 bb3
    obtain ⟨i, m, n, rfl, rfl, hik, HM, HN, ca, cb, bz⟩ := hrel
    have HIK := Lib.hid hik
    by_cases hi : i < k
    · obtain ⟨j, hj⟩ : ∃ j, j + 1 + i = k := ⟨k - 1 - i, by omega⟩
      have hjk : j < k := by omega
      obtain ⟨ad, x, hA, hadb, hx, cx⟩ := (L.below bz (Nat.le_refl _)).int (i := i) (by rw [HL.out]; exact hi)
      subst hA
      have hii : (i : Int) < (k : Int) := by omega
      have hxi := i64_of (wf x (List.mem_of_getElem? hx))
      have HX := Lib.hid hx
      have HJ := Lib.hid hj
      obtain ⟨r, hr⟩ : ∃ r, max m x = r := ⟨_, rfl⟩
      have HR := Lib.hid hr
      clear hik hx hj
      go_upto_region 12 with (with_reducible refine wpList_max_to rfl (.tmp 21) (.tmp 25) 2 2 rfl .i64 .i64 m x r rfl rfl hr.symm ?_)
      clear hr
      go_wp2_with fail
      refine (tl_most a m x _ ca hxi).mono ?_
      rw [HR.out]
      rintro e w4 ⟨rfl, ca4, g4⟩
      have cb4 := cb.off g4 (fun q => hab q.symm)
      have b4 := below_row bz hla g4 bz.size
      obtain ⟨ad', y, hA', hadb', hy, cy⟩ := (L.below b4 (Nat.le_refl _)).int (i := j) (by rw [HL.out]; exact hjk)
      injection hA' with hA'
      subst hA'
      have hyi := i64_of (wf y (List.mem_of_getElem? hy))
      have hjI : (k : Int) - 1 - (i : Int) = (j : Int) := by have := HJ.out; omega
      have hjkI : (j : Int) < (k : Int) := by omega
      have HY := Lib.hid hy
      clear cx hy ca cb
      go_wp2_with fail
      refine (tl_most b n y _ cb4 hyi).mono ?_
      rintro e w5 ⟨rfl, cb5, g5⟩
      have ca5 := ca4.off g5 hab
      have b5 := below_row b4 hlb g5 b4.size
      clear cy hjI
      go_wp2_with fail
      go_roundg (gk - 1)
      case measure => have := HIK.out; omega
      case rel => exact ⟨i + 1, r, max n y, rfl, by go_num, by have := HIK.out; omega, Lib.hid (by rw [mxs_step HX.out, ← HM.out, HR.out]), Lib.hid (by rw [mxs_back HY.out HJ.out, ← HN.out]), ca5, cb5, b5⟩
    · obtain rfl : i = k := by omega
      have hmn : n = m := by rw [HM.out, HN.out, Nat.sub_self, List.drop_zero, ← HL.out, List.take_length]
      subst hmn
      clear hik HIK hi HM HN
      go_wp2_with fail
      refine (tl_load a n _ ca).mono ?_
      rintro e w4 ⟨rfl, rfl⟩
      go_wp2_with fail
      refine (tl_load b n _ cb).mono ?_
      rintro e w4 ⟨rfl, rfl⟩
      go_wp2_with fail
      go_ret
      exact ⟨rfl, bz⟩

/-- A number's lowest 63 bits. -/
def lo63 (x : Int) : Nat := (bits .and .i64 x 9223372036854775807).toNat
theorem lo63_eq (x : Int) : bits .and .i64 x 9223372036854775807 = (lo63 x : Int) ∧ lo63 x ≤ 9223372036854775807 := by
  have key : (BitVec.ofInt 64 x &&& BitVec.ofInt 64 9223372036854775807).toNat ≤ 9223372036854775807 := by
    rw [BitVec.toNat_and]
    exact Nat.le_trans Nat.and_le_right (by decide)
  have e : bits .and .i64 x 9223372036854775807 = ((BitVec.ofInt 64 x &&& BitVec.ofInt 64 9223372036854775807).toNat : Int) := by
    show IntKind.i64.wrap ((BitVec.ofInt 64 x &&& BitVec.ofInt 64 9223372036854775807).toNat : Nat) = _
    rw [IntKind.wrap_i64]
    omega
  unfold lo63
  rw [e]
  omega
/-- Sums of a function. -/
def smf (f : Nat → Nat) : Nat → Nat
  | 0 => 0
  | n + 1 => smf f n + f n
theorem smf_shift (g : Nat → Nat) (n : Nat) : smf (fun j => g (j + 1)) n + g 0 = smf g n + g n := by
  induction n with
  | zero => rfl
  | succ n ih => show smf (fun j => g (j + 1)) n + g (n + 1) + g 0 = smf g n + g n + g (n + 1); omega
theorem smf_rot (f : Nat → Nat) (n s : Nat) : smf (fun j => f ((j + s) % n)) n = smf (fun j => f ((j + 0) % n)) n := by
  induction s with
  | zero => rfl
  | succ s ih =>
    have h := smf_shift (fun j => f ((j + s) % n)) n
    simp only [Nat.zero_add, Nat.add_mod_left] at h
    rw [← ih]
    have e : (fun j => f ((j + (s + 1)) % n)) = fun j => f ((j + 1 + s) % n) := by funext j; rw [show j + (s + 1) = j + 1 + s by omega]
    rw [e]
    omega
theorem smf_ext {f g : Nat → Nat} {n : Nat} (h : ∀ j, j < n → f j = g j) : smf f n = smf g n := by
  induction n with
  | zero => rfl
  | succ n ih => show smf f n + f n = smf g n + g n; rw [ih (fun j hj => h j (by omega)), h n (by omega)]
theorem smf_turn (f : Nat → Nat) (n s : Nat) : smf (fun j => f ((j + s) % n)) n = smf f n := by
  rw [smf_rot]
  exact smf_ext (fun j hj => by rw [Nat.add_zero, Nat.mod_eq_of_lt hj])
/-- A sum, or the greatest int64. -/
def cm (s : Nat) : Int := if s ≤ 9223372036854775807 then (s : Int) else 9223372036854775807
theorem cm_add (s y : Nat) (hy : y ≤ 9223372036854775807) : sat (cm s + (y : Int)) = cm (s + y) := by
  unfold cm sat; split <;> (try split) <;> (try split) <;> (try split) <;> omega
theorem cm_le (s y : Nat) : cm s ≤ cm (s + y) := by unfold cm; split <;> (try split) <;> omega
theorem cm_nn (s : Nat) : 0 ≤ cm s := by unfold cm; split <;> omega
def yv (xs : List Int) (j : Nat) : Nat := lo63 (xs.getD j 0)
theorem yv_at {xs : List Int} {j : Nat} {x : Int} (h : xs[j]? = some x) : yv xs j = lo63 x := by unfold yv; rw [List.getD_eq_getElem?_getD, h]; rfl

set_option maxRecDepth 100000 in
set_option maxHeartbeats 3200000 in
theorem sums_walk (a0 : Option Addr) (k cap : Nat) (xs : List Int) (x1 : Int) (hl : xs.length = k) (_hc : k ≤ cap) (w : World) (L : Lies w w.heap.size a0 (ints xs)) :
    Calls Try.prog 8 #[.slice a0 k cap, .int .i64 x1] w fun e w' => e = .returned (.bool true) ∧ Below w.heap.size w w' := by
  have HL := Lib.hid hl
  clear hl
  by_cases hk : 100 < k
  · have hki : decide ((100 : Int) < (k : Int)) = true := by simp; omega
    go_enter Try.func8, Try.ntmps8
    go_wp2_with fail
    refine (head15 _).mono ?_
    rintro e w1 ⟨rfl, b1⟩
    go_wp2_with fail
    go_ret
    exact ⟨rfl, b1⟩
  have hki : decide ((100 : Int) < (k : Int)) = false := by simp; omega
  have hkI : (k : Int) ≤ 100 := by omega
  obtain ⟨s, hs, hs1⟩ := and_nat x1 65535 16 65536 (by decide) (by decide) (by decide)
  have HS := Lib.hid hs
  clear hs
  go_enter Try.func8, Try.ntmps8
  go_wp2_with fail
  refine (head15 _).mono ?_
  rintro e w1 ⟨rfl, b1⟩
  go_upto_region 6 with (fail)
  have h2 := cn_new w1
  have bb2 : Below w.heap.size w (w1.alloc (.cells #[.int .i64 0] 56)) := b1.alloc b1.size _
  obtain ⟨a, ha⟩ : ∃ a, w1.heap.size = a := ⟨_, rfl⟩
  have hla : w.heap.size ≤ a := by rw [← ha]; exact b1.size
  rw [ha] at h2
  try rw [ha]
  generalize w1.alloc (.cells #[.int .i64 0] 56) = w2 at h2 bb2 ⊢
  clear ha b1
  have h3 := cn_new w2
  have hg3 := World.grownBy_alloc w2 (.cells #[.int .i64 0] 56) none
  have bb3 : Below w.heap.size w (w2.alloc (.cells #[.int .i64 0] 56)) := bb2.alloc bb2.size _
  have h2' : Cn (w2.alloc (.cells #[.int .i64 0] 56)) a 0 := ⟨h2.1, by rw [hg3.block a h2.lt (by simp)]; exact h2.2⟩
  obtain ⟨b, hb⟩ : ∃ b, w2.heap.size = b := ⟨_, rfl⟩
  have hlb : w.heap.size ≤ b := by rw [← hb]; exact bb2.size
  have hab : a ≠ b := by have := h2.lt; omega
  rw [hb] at h3
  clear h2 hg3 bb2
  go_upto_region 7 with (fail)
  try rw [hb]
  generalize w2.alloc (.cells #[.int .i64 0] 56) = w3 at h3 h2' bb3 ⊢
  clear hb hki hk
  go_wp2_with fail
  go_loopg [23] k (fun gk vi wr => ∃ (i : Nat) (m n : Int), vi = .int .i64 (i : Int) ∧ i + gk = k ∧ Hid (m = cm (smf (yv xs) i)) ∧ Hid (n = cm (smf (fun j => yv xs ((j + s) % k)) i)) ∧ Cn wr a m ∧ Cn wr b n ∧ Below w.heap.size w wr)
  case atStart => exact ⟨0, 0, 0, rfl, by omega, Lib.hid rfl, Lib.hid rfl, h2', h3, bb3⟩
  case round =>
    clear h2' h3 bb3
    obtain ⟨i, m, n, rfl, hik, HM, HN, ca, cb, bz⟩ := hrel
    have HIK := Lib.hid hik
    by_cases hi : i < k
    · obtain ⟨y, hy⟩ : ∃ y, (i + s) % k = y := ⟨_, rfl⟩
      have hyk : y < k := by rw [← hy]; exact Nat.mod_lt _ (by omega)
      obtain ⟨ad, x, hA, hadb, hx, cx⟩ := (L.below bz (Nat.le_refl _)).int (i := i) (by rw [HL.out]; exact hi)
      subst hA
      have hii : (i : Int) < (k : Int) := by omega
      obtain ⟨ex, lx⟩ := lo63_eq x
      have HX := Lib.hid hx
      obtain ⟨r, hr⟩ : ∃ r, sat (m + (lo63 x : Int)) = r := ⟨_, rfl⟩
      have hrm : decide (r < m) = false := by rw [← hr, HM.out, cm_add _ _ lx]; simp; exact cm_le _ _
      have HR := Lib.hid hr
      clear hik hx hr
      go_wp2_with fail
      refine (tl_load a m _ ca).mono ?_
      rintro e w4 ⟨rfl, rfl⟩
      go_wp2_with fail
      refine (tl_add a m _ _ ca ⟨by omega, by omega⟩).mono ?_
      rw [HR.out]
      rintro e w4 ⟨rfl, ca4, g4⟩
      have cb4 := cb.off g4 (fun q => hab q.symm)
      have b4 := below_row bz hla g4 bz.size
      obtain ⟨ad', z, hA', hadb', hz, cz⟩ := (L.below b4 (Nat.le_refl _)).int (i := y) (by rw [HL.out]; exact hyk)
      injection hA' with hA'
      subst hA'
      obtain ⟨ez, lz⟩ := lo63_eq z
      have hrem : ((i : Int) + (s : Int)).tmod (k : Int) = (y : Int) := by rw [← hy]; exact Int.ofNat_tmod (i + s) k
      have hyI : (y : Int) < (k : Int) := by omega
      have hsi : (s : Int) < 65536 := by omega
      have hse := HS.out
      have HZ := Lib.hid hz
      have HY := Lib.hid hy
      have hk0 : ((k : Int) == 0) = false := by simp; omega
      clear cx hz ca cb hy ex
      go_wp2_with fail
      refine (tl_add b n _ _ cb4 ⟨by omega, by omega⟩).mono ?_
      rintro e w5 ⟨rfl, cb5, g5⟩
      have ca5 := ca4.off g5 hab
      have b5 := below_row b4 hlb g5 b4.size
      clear cz hrem hse hk0 hrm ez
      go_wp2_with fail
      go_roundg (gk - 1)
      case measure => have := HIK.out; omega
      case rel =>
        refine ⟨i + 1, r, _, by go_num, by have := HIK.out; omega, Lib.hid ?_, Lib.hid ?_, ca5, cb5, b5⟩
        · rw [← HR.out, HM.out, cm_add _ _ lx, ← yv_at HX.out]; rfl
        · rw [HN.out, cm_add _ _ lz, ← yv_at HZ.out, ← HY.out]; rfl
    · obtain rfl : i = k := by omega
      have hmn : n = m := by rw [HM.out, HN.out, smf_turn]
      subst hmn
      have hnn : 0 ≤ n := by rw [HM.out]; exact cm_nn _
      clear hik HIK hi HM HN
      go_wp2_with fail
      refine (tl_load a n _ ca).mono ?_
      rintro e w4 ⟨rfl, rfl⟩
      go_wp2_with fail
      refine (tl_load b n _ cb).mono ?_
      rintro e w4 ⟨rfl, rfl⟩
      go_wp2_with fail
      refine (tl_load a n _ ca).mono ?_
      rintro e w4 ⟨rfl, rfl⟩
      go_wp2_with fail
      go_ret
      exact ⟨rfl, bz⟩

end Go.Proofs.Ytkldoeillkfpbaa.W
