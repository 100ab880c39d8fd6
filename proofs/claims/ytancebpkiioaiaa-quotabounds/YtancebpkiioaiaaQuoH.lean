/- Package quota for the laws: what steps answer and turn; the document's example; the law QuotaLowers. -/
import Derived.Test.YtancebpkiioaiaaQuoG
namespace Go.Proofs.Ytancebpkiioaiaa.W
open Go.RowKit

theorem updZ_two {α : Type} (F : Int → Option α) (x : Int) (u v : Option α) : updZ (updZ F x u) x v = updZ F x v := by
  funext y
  by_cases e : y = x
  · subst e; rw [updZ_same, updZ_same]
  · rw [updZ_ne _ _ e, updZ_ne _ _ e, updZ_ne _ _ e]
theorem accA_yes {A : Int → Option Nat} {F : Int → Option Fn} {x : Int} {n : Nat} (h : accC F x (n : Int) = 0) : accA A F x (n : Int) = updZ A x (some n) := by unfold accA; rw [h, if_pos rfl]; simp
theorem funF_yes {A : Int → Option Nat} {F : Int → Option Fn} {f : Int} {x n : Nat} (h : funC A F f (x : Int) (n : Int) = 0) : funF A F f (x : Int) (n : Int) = updZ F f (some (x, n, busy F f)) := by unfold funF busy; rw [h, if_pos rfl]; simp
theorem begF_yes {A : Int → Option Nat} {F : Int → Option Fn} {f : Int} {o r b : Nat} (h : mayB A F f = true) (hF : F f = some (o, r, b)) : begF A F f = updZ F f (some (o, r, b + 1)) := by unfold begF; rw [h, hF]; rfl
theorem begF_no {A : Int → Option Nat} {F : Int → Option Fn} {f : Int} (h : mayB A F f = false) : begF A F f = F := by unfold begF; rw [h]; rfl
theorem busy_some {F : Int → Option Fn} {f : Int} {o r b : Nat} (hF : F f = some (o, r, b)) : busy F f = b := by unfold busy; rw [hF]; rfl
theorem busy_none {F : Int → Option Fn} {f : Int} (hF : F f = none) : busy F f = 0 := by unfold busy; rw [hF]; rfl
theorem endF_yes {F : Int → Option Fn} {f : Int} {o r b : Nat} (hF : F f = some (o, r, b + 1)) : endF F f = updZ F f (some (o, r, b)) := by unfold endF; rw [busy_some hF, hF]; simp
theorem endF_no {F : Int → Option Fn} {f : Int} (h : busy F f = 0) : endF F f = F := by unfold endF; rw [h]; rfl

/-- One function alone of an account. -/
theorem sums_one {F : Int → Option Fn} {f o r b : Nat} (hf : f < 64) (h : F (f : Int) = some (o, r, b)) (ho : ∀ j : Nat, j ≠ f → ∀ o' r' b', F (j : Int) = some (o', r', b') → o' ≠ o) :
    sR F (o : Int) = r ∧ sB F (o : Int) = b ∧ sO F (o : Int) = if r = 0 then b else 0 := by
  have key : ∀ j : Nat, j ≠ f → gR F (o : Int) j = 0 ∧ gB F (o : Int) j = 0 ∧ gO F (o : Int) j = 0 := by
    intro j hj
    cases q : F (j : Int) with
    | none => exact ⟨gR_none q, gB_none q, gO_none q⟩
    | some v =>
      obtain ⟨o', r', b'⟩ := v
      have hne : ¬ (o' : Int) = (o : Int) := by have := ho j hj _ _ _ q; omega
      exact ⟨by rw [gR_some q, if_neg hne], by rw [gB_some q, if_neg hne], by rw [gO_some q, if_neg (fun z => hne z.1)]⟩
  refine ⟨?_, ?_, ?_⟩
  · unfold sR; rw [sumN_one (fun j hj => (key j hj).1) hf, gR_some h, if_pos rfl]
  · unfold sB; rw [sumN_one (fun j hj => (key j hj).2.1) hf, gB_some h, if_pos rfl]
  · unfold sO; rw [sumN_one (fun j hj => (key j hj).2.2) hf, gO_some h]; simp
theorem may_one {A : Int → Option Nat} {F : Int → Option Fn} {f o b lim : Nat} (hf : f < 64) (h : F (f : Int) = some (o, 0, b)) (ho : ∀ j : Nat, j ≠ f → ∀ o' r' b', F (j : Int) = some (o', r', b') → o' ≠ o) (hA : A (o : Int) = some lim) : mayB A F (f : Int) = decide (b < lim) := by
  obtain ⟨h1, h2, h3⟩ := sums_one hf h ho
  unfold mayB
  rw [ask_some h, if_neg (by omega), h1, h2, h3, hA]
  simp only [Option.getD_some, if_true, true_and, Nat.add_zero, or_self]
  by_cases q : b < lim
  · rw [if_neg (by omega)]; simp [q]
  · rw [if_pos (by omega)]; simp [q]

abbrev noA : Int → Option Nat := fun _ => none
abbrev noF : Int → Option Fn := fun _ => none
theorem busy_no (f : Int) : busy noF f = 0 := rfl

set_option maxRecDepth 100000 in
set_option maxHeartbeats 1600000 in
theorem head11 (w : World) : Calls Try.prog 19 #[] w fun e w' => e = .returned (.bool true) ∧ Below w.heap.size w w' := by
  obtain ⟨A1, hA1⟩ : ∃ A1 : Int → Option Nat, A1 = updZ noA 1 (some 3) := ⟨_, rfl⟩
  obtain ⟨F1, hF1⟩ : ∃ F1 : Int → Option Fn, F1 = updZ noF 5 (some (1, 2, 0)) := ⟨_, rfl⟩
  obtain ⟨F2, hF2⟩ : ∃ F2 : Int → Option Fn, F2 = updZ (updZ noF 5 (some (1, 2, 0))) 6 (some (1, 0, 0)) := ⟨_, rfl⟩
  obtain ⟨F3, hF3⟩ : ∃ F3 : Int → Option Fn, F3 = updZ (updZ noF 5 (some (1, 2, 0))) 6 (some (1, 0, 1)) := ⟨_, rfl⟩
  obtain ⟨F4, hF4⟩ : ∃ F4 : Int → Option Fn, F4 = updZ (updZ (updZ noF 5 (some (1, 2, 0))) 6 (some (1, 0, 1))) 5 (some (1, 2, 1)) := ⟨_, rfl⟩
  obtain ⟨F5, hF5⟩ : ∃ F5 : Int → Option Fn, F5 = updZ (updZ (updZ noF 5 (some (1, 2, 0))) 6 (some (1, 0, 1))) 5 (some (1, 2, 2)) := ⟨_, rfl⟩
  have c0 := Lib.hid (show accC noF 1 3 = 0 by decide +kernel)
  have e0 := Lib.hid (show accA noA noF 1 3 = A1 by rw [hA1]; exact accA_yes (n := 3) c0.out)
  have c1 := Lib.hid (show funC A1 noF 5 1 2 = 0 by rw [hA1]; decide +kernel)
  have e1 := Lib.hid (show funF A1 noF 5 1 2 = F1 by rw [hF1]; exact funF_yes (x := 1) (n := 2) c1.out)
  have c2 := Lib.hid (show funC A1 F1 6 1 0 = 0 by rw [hA1, hF1]; decide +kernel)
  have e2 := Lib.hid (show funF A1 F1 6 1 0 = F2 by
    have := funF_yes (x := 1) (n := 0) c2.out
    rw [hF2, ← hF1]; rw [show busy F1 6 = 0 by rw [hF1]; decide +kernel] at this; exact this)
  have c3 := Lib.hid (show mayB A1 F2 6 = true by rw [hA1, hF2]; decide +kernel)
  have e3 := Lib.hid (show begF A1 F2 6 = F3 by
    have := begF_yes c3.out (show F2 6 = some (1, 0, 0) by rw [hF2]; rfl)
    rw [this, hF2, hF3, updZ_two])
  have c4 := Lib.hid (show mayB A1 F3 6 = false by rw [hA1, hF3]; decide +kernel)
  have e4 := Lib.hid (begF_no c4.out)
  have c5 := Lib.hid (show mayB A1 F3 5 = true by rw [hA1, hF3]; decide +kernel)
  have e5 := Lib.hid (show begF A1 F3 5 = F4 by
    have := begF_yes c5.out (show F3 5 = some (1, 2, 0) by rw [hF3]; rfl)
    rw [this, hF3, hF4])
  have c6 := Lib.hid (show mayB A1 F4 5 = true by rw [hA1, hF4]; decide +kernel)
  have e6 := Lib.hid (show begF A1 F4 5 = F5 by
    have := begF_yes c6.out (show F4 5 = some (1, 2, 1) by rw [hF4]; rfl)
    rw [this, hF4, hF5, updZ_two])
  have c7 := Lib.hid (show (askC A1 F5 5).1 = 1 by rw [hA1, hF5]; decide +kernel)
  have c8 := Lib.hid (show (askC A1 F5 5).2 = true by rw [hA1, hF5]; decide +kernel)
  have c9 := Lib.hid (show busy F5 5 = 2 by rw [hF5]; decide +kernel)
  clear hA1 hF1 hF2 hF3 hF4 hF5
  go_enter Try.func19, Try.ntmps19
  go_wp2_with fail
  refine (l_new w).mono ?_
  rintro e w1 ⟨rfl, h1, b1⟩
  obtain ⟨l, hl⟩ : ∃ l, w.heap.size = l := ⟨_, rfl⟩
  have hll : w.heap.size ≤ l := Nat.le_of_eq hl
  rw [hl] at h1
  rw [hl]
  clear hl
  go_wp2_with fail
  refine (l_setA l _ _ 1 3 _ h1).mono ?_
  rintro e w2 ⟨rfl, h2, g2⟩
  rw [e0.out] at h2
  rw [c0.out]
  have b2 := below_row b1 hll g2 b1.size
  go_wp2_with fail
  refine (l_setF l _ _ 5 1 2 _ h2).mono ?_
  rintro e w3 ⟨rfl, h3, g3⟩
  rw [e1.out] at h3
  rw [c1.out]
  have b3 := below_row b2 hll g3 b2.size
  go_wp2_with fail
  refine (l_setF l _ _ 6 1 0 _ h3).mono ?_
  rintro e w4 ⟨rfl, h4, g4⟩
  rw [e2.out] at h4
  rw [c2.out]
  have b4 := below_row b3 hll g4 b3.size
  go_wp2_with fail
  refine (l_begin l _ _ 6 _ h4).mono ?_
  rintro e w5 ⟨rfl, h5, g5⟩
  rw [e3.out] at h5
  rw [c3.out]
  have b5 := below_row b4 hll g5 b4.size
  go_wp2_with fail
  refine (l_begin l _ _ 6 _ h5).mono ?_
  rintro e w6 ⟨rfl, h6, g6⟩
  rw [e4.out] at h6
  rw [c4.out]
  have b6 := below_row b5 hll g6 b5.size
  go_wp2_with fail
  refine (l_begin l _ _ 5 _ h6).mono ?_
  rintro e w7 ⟨rfl, h7, g7⟩
  rw [e5.out] at h7
  rw [c5.out]
  have b7 := below_row b6 hll g7 b6.size
  go_wp2_with fail
  refine (l_begin l _ _ 5 _ h7).mono ?_
  rintro e w8 ⟨rfl, h8, g8⟩
  rw [e6.out] at h8
  rw [c6.out]
  have b8 := below_row b7 hll g8 b7.size
  go_wp2_with fail
  refine (l_ask l _ _ 5 _ h8).mono ?_
  rintro e w9 ⟨rfl, b9⟩
  rw [c7.out, c8.out]
  have h9 := h8.keep b9 h8.lt
  have b9' := b8.trans (b9.mono b8.size)
  go_wp2_with fail
  refine (l_busy l _ _ 5 _ h9).mono ?_
  rintro e w10 ⟨rfl, rfl⟩
  rw [c9.out]
  go_wp2_with fail
  go_ret
  exact ⟨rfl, b9'⟩

/-- Function 9 of account 3 alone. -/
def A3 (n : Nat) : Int → Option Nat := updZ noA 3 (some n)
def F9 (b : Nat) : Int → Option Fn := updZ noF 9 (some (3, 0, b))
theorem A3_3 (n : Nat) : A3 n ((3 : Nat) : Int) = some n := updZ_same _ _ _
theorem F9_9 (b : Nat) : F9 b ((9 : Nat) : Int) = some (3, 0, b) := updZ_same _ _ _
theorem F9_9i (b : Nat) : F9 b 9 = some (3, 0, b) := updZ_same _ _ _
theorem A3_3i (n : Nat) : A3 n 3 = some n := updZ_same _ _ _
theorem F9_ne (b : Nat) : ∀ j : Nat, j ≠ 9 → ∀ o' r' b', F9 b (j : Int) = some (o', r', b') → o' ≠ 3 := by
  intro j hj o' r' b' h
  unfold F9 at h; rw [updZ_ne _ _ (by omega)] at h; cases h
theorem may9 (n b : Nat) : mayB (A3 n) (F9 b) 9 = decide (b < n) := may_one (f := 9) (o := 3) (by decide) (F9_9 b) (F9_ne b) (A3_3 n)
theorem sR9 (b : Nat) : sR (F9 b) 3 = 0 := (sums_one (f := 9) (o := 3) (by decide) (F9_9 b) (F9_ne b)).1
theorem beg9 (n b : Nat) : begF (A3 n) (F9 b) 9 = F9 (if b < n then b + 1 else b) := by
  by_cases h : b < n
  · rw [begF_yes (by rw [may9]; simpa using h) (F9_9i b), if_pos h]; exact updZ_two _ _ _ _
  · rw [begF_no (by rw [may9]; simpa using h), if_neg h]
theorem end9 (b : Nat) : endF (F9 b) 9 = F9 (b - 1) := by
  cases b with
  | zero => exact endF_no (busy_some (F9_9i 0))
  | succ n => rw [endF_yes (F9_9i (n + 1))]; exact updZ_two _ _ _ _
theorem busy9 (b : Nat) : busy (F9 b) 9 = b := busy_some (F9_9i b)
theorem sR_no (a : Int) : sR noF a = 0 := sumN_zero (fun _ _ => gR_none rfl)
theorem acc3 {n : Nat} (h : n ≤ 1000) : accC noF 3 (n : Int) = 0 ∧ accA noA noF 3 (n : Int) = A3 n := by
  have hc : accC noF 3 (n : Int) = 0 := by
    unfold accC
    rw [sR_no, isC_iff.2 (by omega), show isA 3 = true by decide]
    simp
  exact ⟨hc, accA_yes hc⟩
theorem acc3' {m n b : Nat} (h : n ≤ 1000) : accC (F9 b) 3 (n : Int) = 0 ∧ accA (A3 m) (F9 b) 3 (n : Int) = A3 n := by
  have hc : accC (F9 b) 3 (n : Int) = 0 := by
    unfold accC
    rw [sR9, isC_iff.2 (by omega), show isA 3 = true by decide]
    simp
  exact ⟨hc, by rw [accA_yes hc]; exact updZ_two _ _ _ _⟩
theorem fun9 (n : Nat) : funC (A3 n) noF 9 3 0 = 0 ∧ funF (A3 n) noF 9 3 0 = F9 0 := by
  have hc : funC (A3 n) noF 9 3 0 = 0 := by
    rw [funC_go (F := noF) (f := 9) (x := 3) (n := 0) (lim := n) (by decide) (A3_3i n) (Or.inl rfl), sR_no]
    simp
  exact ⟨hc, funF_yes (x := 3) (n := 0) hc⟩

set_option maxRecDepth 100000 in
set_option maxHeartbeats 1600000 in
theorem lowers_walk (x0 x1 x2 : Int) (w : World) :
    Calls Try.prog 9 #[.int .i64 x0, .int .i64 x1, .int .i64 x2] w fun e w' => e = .returned (.bool true) ∧ Below w.heap.size w w' := by
  obtain ⟨hi, hh, hh1⟩ := and_nat x0 63 6 64 (by decide) (by decide) (by decide)
  obtain ⟨lo, hlo, hlo1⟩ := and_nat x1 63 6 64 (by decide) (by decide) (by decide)
  obtain ⟨rn, hrn, hrn1⟩ := and_nat x2 63 6 64 (by decide) (by decide) (by decide)
  have hhI : (hi : Int) < 64 := by omega
  have hloI : (lo : Int) < 64 := by omega
  have hrnI : (rn : Int) < 64 := by omega
  go_enter Try.func9, Try.ntmps9
  go_wp2_with fail
  refine (head11 _).mono ?_
  rintro e w1 ⟨rfl, b1⟩
  go_wp2_with fail
  refine (l_new w1).mono ?_
  rintro e w2 ⟨rfl, h2, b2⟩
  obtain ⟨l, hl⟩ : ∃ l, w1.heap.size = l := ⟨_, rfl⟩
  have bb2 := b1.trans (b2.mono b1.size)
  have hll : w.heap.size ≤ l := by rw [← hl]; exact b1.size
  rw [hl] at h2
  rw [hl]
  clear hl b1 b2 hh hlo hrn
  go_wp2_with fail
  refine (l_setA l _ _ 3 (hi : Int) _ h2).mono ?_
  rintro e w3 ⟨rfl, h3, g3⟩
  rw [(acc3 (n := hi) (by omega)).2] at h3
  rw [(acc3 (n := hi) (by omega)).1]
  have bb3 := below_row bb2 hll g3 bb2.size
  clear h2 g3 bb2
  go_wp2_with fail
  refine (l_setF l _ _ 9 3 0 _ h3).mono ?_
  rintro e w4 ⟨rfl, h4, g4⟩
  rw [(fun9 hi).2] at h4
  rw [(fun9 hi).1]
  have bb4 := below_row bb3 hll g4 bb3.size
  clear h3 g4 bb3
  go_wp2_with fail
  go_loopg [8] rn (fun gk vi wr => ∃ i : Nat, vi = .int .i64 (i : Int) ∧ i + gk = rn ∧ Lg wr l (A3 hi) (F9 (min i hi)) ∧ Below w.heap.size w wr)
  case atStart => exact ⟨0, rfl, by omega, by rw [Nat.zero_min]; exact h4, bb4⟩
  case round =>
    clear h4 bb4
    obtain ⟨i, rfl, hik, hz, bz⟩ := hrel
    have HIK := Lib.hid hik
    by_cases hi1 : i < rn
    · clear hik
      go_wp2_with fail
      refine (l_begin l _ _ 9 _ hz).mono ?_
      rintro e w3 ⟨rfl, h3, g3⟩
      rw [beg9] at h3
      rw [may9]
      have b3 := below_row bz hll g3 bz.size
      have hN : Lg w3 l (A3 hi) (F9 (min (i + 1) hi)) := by
        rw [show min (i + 1) hi = if min i hi < hi then min i hi + 1 else min i hi by split <;> omega]; exact h3
      by_cases hc : i < hi
      · have hd : decide (min i hi < hi) = true := by simp; omega
        rw [hd]
        clear hd h3
        go_wp2_with fail
        go_roundg (gk - 1)
        case measure => have := HIK.out; omega
        case rel => exact ⟨i + 1, by go_num, by have := HIK.out; omega, hN, b3⟩
      · have hd : decide (min i hi < hi) = false := by simp; omega
        rw [hd]
        clear hd h3
        go_wp2_with fail
        go_roundg (gk - 1)
        case measure => have := HIK.out; omega
        case rel => exact ⟨i + 1, by go_num, by have := HIK.out; omega, hN, b3⟩
    · obtain rfl : i = rn := by omega
      clear hik HIK hi1
      obtain ⟨n, hn⟩ : ∃ n, min i hi = n := ⟨_, rfl⟩
      have hnI : (n : Int) = min (i : Int) (hi : Int) := by omega
      have hn64 : (n : Int) < 64 := by omega
      rw [hn] at hz
      have HNI := Lib.hid hnI
      clear hn hnI
      go_wp2_with (with_reducible refine wpList_min_to rfl (.tmp 39) (.tmp 40) 3 3 rfl .i64 .i64 (i : Int) (hi : Int) (n : Int) rfl rfl HNI.out ?_)
      refine (l_setA l _ _ 3 (lo : Int) _ hz).mono ?_
      rintro e w3 ⟨rfl, h3, g3⟩
      rw [(acc3' (m := hi) (b := n) (n := lo) (by omega)).2] at h3
      rw [(acc3' (m := hi) (b := n) (n := lo) (by omega)).1]
      have b3 := below_row bz hll g3 bz.size
      clear hz bz g3
      go_wp2_with fail
      go_loopg [9] n (fun gk vi wr => ∃ i j : Nat, vi = .int .i64 (i : Int) ∧ j + gk = n ∧ i + j = n ∧ Lg wr l (A3 lo) (F9 i) ∧ Below w.heap.size w wr)
      case atStart => exact ⟨n, 0, rfl, by omega, by omega, h3, b3⟩
      case round =>
        clear h3 b3
        obtain ⟨k, j, rfl, hgk, hkn, hz, bz⟩ := hrel
        have HGK := Lib.hid hgk
        have HKN := Lib.hid hkn
        have hkI : (k : Int) < 64 := by omega
        clear hgk hkn
        cases k with
        | zero =>
          go_wp2_with fail
          refine (l_end l _ _ 9 _ hz).mono ?_
          rintro e w4 ⟨rfl, h4, g4⟩
          rw [end9] at h4
          rw [busy9]
          have b4 := below_row bz hll g4 bz.size
          go_wp2_with fail
          refine (l_begin l _ _ 9 _ h4).mono ?_
          rintro e w5 ⟨rfl, h5, g5⟩
          rw [may9]
          have b5 := below_row b4 hll g5 b4.size
          go_wp2_with fail
          go_ret
          refine ⟨?_, b5⟩
          simp
        | succ m =>
          have hm1 : ((m + 1 : Nat) : Int) = (m : Int) + 1 := by omega
          rw [hm1] at hkI
          rw [hm1]
          have hpos : decide ((0 : Int) < (m : Int) + 1) = true := decide_eq_true (by omega)
          have hmm : (m : Int) + 1 - 1 = (m : Int) := by omega
          have HM1 := Lib.hid hm1
          clear hm1
          go_wp2_with fail
          refine (l_busy l _ _ 9 _ hz).mono ?_
          rintro e w4 ⟨rfl, rfl⟩
          rw [busy9, HM1.out]
          clear hpos
          go_wp2_with fail
          refine (l_begin l _ _ 9 _ hz).mono ?_
          rintro e w4 ⟨rfl, h4, g4⟩
          rw [beg9] at h4
          rw [may9]
          have b4 := below_row bz hll g4 bz.size
          by_cases hc : m + 1 < lo
          · rw [if_pos hc] at h4
            rw [decide_eq_true hc]
            have hcI : (m : Int) + 1 < (lo : Int) := by omega
            go_wp2_with fail
            refine (l_end l _ _ 9 _ h4).mono ?_
            rintro e w5 ⟨rfl, h5, g5⟩
            rw [end9] at h5
            rw [busy9, decide_eq_true (show 0 < m + 1 + 1 by omega)]
            have b5 := below_row b4 hll g5 b4.size
            go_wp2_with fail
            refine (l_end l _ _ 9 _ h5).mono ?_
            rintro e w6 ⟨rfl, h6, g6⟩
            rw [end9] at h6
            rw [busy9, decide_eq_true (show 0 < m + 1 + 1 - 1 by omega)]
            have b6 := below_row b5 hll g6 b5.size
            go_wp2_with fail
            go_roundg (gk - 1)
            case measure => have := HGK.out; have := HKN.out; omega
            case rel => exact ⟨m, j + 1, by go_num, by have := HGK.out; have := HKN.out; omega, by have := HKN.out; omega, h6, b6⟩
          · rw [if_neg hc] at h4
            rw [decide_eq_false hc]
            have hcI : decide ((m : Int) + 1 < (lo : Int)) = false := decide_eq_false (by omega)
            have hcI2 : (lo : Int) ≤ (m : Int) + 1 := by omega
            clear hc
            go_wp2_with fail
            refine (l_end l _ _ 9 _ h4).mono ?_
            rintro e w5 ⟨rfl, h5, g5⟩
            rw [end9] at h5
            rw [busy9, decide_eq_true (show 0 < m + 1 by omega)]
            have b5 := below_row b4 hll g5 b4.size
            go_wp2_with fail
            go_roundg (gk - 1)
            case measure => have := HGK.out; have := HKN.out; omega
            case rel => exact ⟨m, j + 1, by go_num, by have := HGK.out; have := HKN.out; omega, by have := HKN.out; omega, h5, b5⟩

end Go.Proofs.Ytancebpkiioaiaa.W
