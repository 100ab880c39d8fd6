/- The law HostTight. -/
import Derived.Test.YthmmobhbakmbpaaHostE
import Derived.Test.YthmmobhbakmbpaaActs
import Derived.Deep.LoopGhost
import Derived.Deep.DeepCutAuto
import Derived.Deep.CutBlock
namespace Go.Proofs.Ythmmobhbakmbpaa.W
open Go.RowKit

/-- The first n hosts are there, and none else. -/
def Fst (H : Int → Option Ht) (n : Nat) : Prop := (∀ j : Nat, n ≤ j → H (j : Int) = none) ∧ ∀ j : Nat, j < n → ∃ s u, H (j : Int) = some (false, s, u)
theorem Fst.zero : Fst noH 0 := ⟨fun _ _ => rfl, fun j hj => by omega⟩
theorem Fst.add {H : Int → Option Ht} {n : Nat} (h : Fst H n) (s : Nat) : Fst (updZ H (n : Int) (some (false, s, 0))) (n + 1) := by
  constructor
  · intro j hj; rw [updZ_ne _ _ (by omega)]; exact h.1 j (by omega)
  · intro j hj
    by_cases e : j = n
    · subst e; exact ⟨s, 0, updZ_same _ _ _⟩
    · rw [updZ_ne _ _ (by omega)]; exact h.2 j (by omega)
theorem Fst.take {H : Int → Option Ht} {n : Nat} (h : Fst H n) (x m : Int) : Fst (tkH H x m) n := by
  unfold tkH
  cases q : H x with
  | none => exact h
  | some v =>
    obtain ⟨d, s, u⟩ := v
    cases d with
    | true => exact h
    | false =>
      show Fst (if 0 ≤ m ∧ m ≤ (s : Int) - (u : Int) then updZ H x (some (false, s, u + m.toNat)) else H) n
      by_cases c : 0 ≤ m ∧ m ≤ (s : Int) - (u : Int)
      · rw [if_pos c]
        constructor
        · intro j hj
          have := h.1 j hj
          rw [updZ_ne _ _ (by intro e; rw [e, q] at this; cases this)]; exact this
        · intro j hj
          by_cases e : (j : Int) = x
          · rw [e]; exact ⟨s, _, updZ_same _ _ _⟩
          · rw [updZ_ne _ _ e]; exact h.2 j hj
      · rw [if_neg c]; exact h
theorem Fst.up {H : Int → Option Ht} {n j : Nat} (h : Fst H n) (hj : j < n) : upB H (j : Int) = true := by
  obtain ⟨s, u, e⟩ := h.2 j hj
  exact up_ok e
theorem Fst.far {H : Int → Option Ht} {n j : Nat} (h : Fst H n) (m : Int) (hj : n ≤ j) : fits H m j = false := by
  unfold fits upB; rw [h.1 j hj]; rfl
theorem Fst.fits {H : Int → Option Ht} {n j : Nat} (h : Fst H n) {m r : Int} (hr : fr H (j : Int) = r) (hj : j < n) : fits H m j = decide (m ≤ r) := by
  unfold W.fits; rw [h.up hj, hr]; rfl
theorem fitT_of {H : Int → Option Ht} {m : Int} {n b : Nat} {g : Bool} (h : fitT H m n = (b, g)) {j : Nat} (hj : j < n) (hf : fits H m j = true) : g = true ∧ fr H (b : Int) ≤ fr H (j : Int) ∧ (fr H (b : Int) = fr H (j : Int) → b ≤ j) := by
  cases g with
  | false => rw [(fitT_none H m n (by rw [h])).2 j hj] at hf; cases hf
  | true =>
    have := (fitT_some H m n (by rw [h])).2.2 j hj hf
    rw [h] at this
    exact ⟨rfl, this⟩
theorem fitT_all {H : Int → Option Ht} {m : Int} {k b : Nat} {g sm : Bool} (hF : Fst H k) (h : fitT H m 32 = (b, g)) (hs : sm = true ↔ ∃ j, j < k ∧ fits H m j = true) (hk : k ≤ 32) : g = sm := by
  cases g with
  | false =>
    cases sm with
    | false => rfl
    | true =>
      obtain ⟨j, hj, hf⟩ := hs.1 rfl
      have := (fitT_of h (show j < 32 by omega) hf).1
      cases this
  | true =>
    obtain ⟨h1, h2, _⟩ := fitT_some H m 32 (by rw [h])
    rw [h] at h1 h2
    have hb : b < k := by
      rcases Nat.lt_or_ge b k with q | q
      · exact q
      · rw [hF.far m q] at h2; cases h2
    exact (hs.2 ⟨b, hb, h2⟩).symm

set_option maxRecDepth 100000 in
set_option maxHeartbeats 6400000 in
theorem tight_walk (x2 : Int) (a0 a1 : Option Addr) (k k' cap cap' : Nat) (xs ys : List Int) (hl : xs.length = k) (_hc : k ≤ cap) (hl' : ys.length = k') (_hc' : k' ≤ cap') (w : World) (L : Lies w w.heap.size a0 (ints xs)) (L' : Lies w w.heap.size a1 (ints ys)) :
    Calls Try.prog 7 #[.slice a0 k cap, .slice a1 k' cap', .int .i64 x2] w fun e w' => e = .returned (.bool true) ∧ Below w.heap.size w w' := by
  have HL := Lib.hid hl
  have HL' := Lib.hid hl'
  clear hl hl'
  by_cases hk : 32 < k
  · have hki : decide ((32 : Int) < (k : Int)) = true := by simp; omega
    go_enter Try.func7, Try.ntmps7
    go_wp2_with fail
    refine (head13 _).mono ?_
    rintro e w1 ⟨rfl, b1⟩
    go_wp2_with fail
    go_ret
    exact ⟨rfl, b1⟩
  have hki : decide ((32 : Int) < (k : Int)) = false := by simp; omega
  by_cases hk' : 32 < k'
  · have hki' : decide ((32 : Int) < (k' : Int)) = true := by simp; omega
    go_enter Try.func7, Try.ntmps7
    go_wp2_with fail
    refine (head13 _).mono ?_
    rintro e w1 ⟨rfl, b1⟩
    go_wp2_with fail
    go_ret
    exact ⟨rfl, b1⟩
  have hki' : decide ((32 : Int) < (k' : Int)) = false := by simp; omega
  have hkk := Lib.hid (show k ≤ 32 by omega)
  clear hk hk'
  go_enter Try.func7, Try.ntmps7
  go_wp2_with fail
  refine (head13 _).mono ?_
  rintro e w0 ⟨rfl, b0⟩
  go_wp2_with fail
  refine (h_new w0).mono ?_
  rintro e w1 ⟨rfl, h1, bb1⟩
  have b1 := b0.trans (bb1.mono b0.size)
  obtain ⟨l, hl⟩ : ∃ l, w0.heap.size = l := ⟨_, rfl⟩
  have hll : w.heap.size ≤ l := by rw [← hl]; exact b0.size
  rw [hl] at h1
  rw [hl]
  clear hl b0 bb1
  change Ho w1 l noH at h1
  go_wp2_with fail
  clear hki hki'
  go_loopg [27] k (fun gk vi wr => ∃ (i : Nat) (H : Int → Option Ht), vi = .int .i64 (i : Int) ∧ i + gk = k ∧ Ho wr l H ∧ Fst H i ∧ Below w.heap.size w wr)
  case atStart => exact ⟨0, noH, rfl, by omega, h1, Fst.zero, b1⟩
  case round =>
    clear h1 b1
    obtain ⟨i, H, rfl, hik, hz, hF, bz⟩ := hrel
    have HIK := Lib.hid hik
    by_cases hi : i < k
    · obtain ⟨ad, x, hA, hadb, hx, hcell⟩ := (L.below bz (Nat.le_refl _)).int (i := i) (by rw [HL.out]; exact hi)
      subst hA
      have hi2 : (i : Int) < 32 := by have := hkk.out; omega
      obtain ⟨c, hc, hc1⟩ := and_nat x 4095 12 4096 (by decide) (by decide) (by decide)
      have hcI : (c : Int) < 4096 := by omega
      obtain ⟨e1, e2⟩ := add_ok (H := H) (x := (i : Int)) (n := 1 + (c : Int)) (isH_of (by omega)) (by omega) (by omega) (hF.1 i (Nat.le_refl _))
      have E := Lib.hid (And.intro e1 e2)
      clear hx hik hc1 e1 e2
      go_wp2_with fail
      refine (h_add l H (i : Int) (1 + (c : Int)) _ hz).mono ?_
      rw [E.out.1, E.out.2]
      rintro e w2 ⟨rfl, h2, g2⟩
      have b2 := below_row bz hll g2 bz.size
      have hF2 := hF.add (1 + (c : Int)).toNat
      generalize updZ H (i : Int) (some (false, (1 + (c : Int)).toNat, 0)) = H2 at h2 hF2
      clear hcell hz hF bz g2 hc E
      by_cases hp : i < k'
      · obtain ⟨ad', x', hA', hadb', hx', hcell'⟩ := (L'.below b2 (Nat.le_refl _)).int (i := i) (by rw [HL'.out]; exact hp)
        subst hA'
        obtain ⟨c', hc', hc1'⟩ := and_nat x' 4095 12 4096 (by decide) (by decide) (by decide)
        clear hx' hc1'
        go_wp2_with fail
        refine (h_take l H2 (i : Int) (c' : Int) _ h2).mono ?_
        rintro e w3 ⟨rfl, h3, g3⟩
        have b3 := below_row b2 hll g3 b2.size
        have hF3 := hF2.take (i : Int) (c' : Int)
        generalize tkB H2 (i : Int) (c' : Int) = tb
        clear h2 b2 hF2 g3 hcell' hc'
        go_wp2_with fail
        go_roundg (gk - 1)
        case measure => have := HIK.out; omega
        case rel => exact ⟨i + 1, _, by go_num, by have := HIK.out; omega, h3, hF3, b3⟩
      · go_wp2_with fail
        go_roundg (gk - 1)
        case measure => have := HIK.out; omega
        case rel => exact ⟨i + 1, _, by go_num, by have := HIK.out; omega, h2, hF2, b2⟩
    · obtain rfl : i = k := by omega
      obtain ⟨c, hc, hc1⟩ := and_nat x2 4095 12 4096 (by decide) (by decide) (by decide)
      obtain ⟨m, hm⟩ : ∃ m : Int, (c : Int) = m := ⟨_, rfl⟩
      rw [hm] at hc
      have hm0 := Lib.hid (show 0 ≤ m by omega)
      obtain ⟨b, g, hT⟩ : ∃ b g, fitT H m 32 = (b, g) := ⟨_, _, rfl⟩
      have HFIT := Lib.hid (show fit H m = (b, g) by unfold fit; rw [if_neg (by omega)]; exact hT)
      have HT := Lib.hid hT
      have HF := Lib.hid hF
      clear hik hi hc1 hm hT hF c
      go_wp2_with fail
      refine (h_fit l H m _ hz).mono ?_
      rw [HFIT.out]
      rintro e w2 ⟨rfl, q2, hw2⟩
      have h2 : Ho w2 l H := by rw [hw2]; exact hz.drewN _
      have b2 : Below w.heap.size w w2 := by rw [hw2]; exact below_drewN bz _
      clear hw2 hz bz hc HFIT
      go_wp2_with fail
      go_loopg [12, 62] i (fun gk v12 vi wz => ∃ (j : Nat) (sm : Bool), v12 = .bool sm ∧ vi = .int .i64 (j : Int) ∧ j + gk = i ∧ (sm = true ↔ ∃ q, q < j ∧ fits H m q = true) ∧ Ho wz l H ∧ Below w.heap.size w wz)
      case atStart => exact ⟨0, false, rfl, rfl, by omega, ⟨(fun q => by cases q), (fun ⟨q, hq, _⟩ => by omega)⟩, h2, b2⟩
      case round =>
        clear h2 b2
        obtain ⟨j, sm, rfl, rfl, hjk, hsm, h0, b0⟩ := hrel
        have HJK := Lib.hid hjk
        have HSM := Lib.hid hsm
        clear hsm
        by_cases hj : j < i
        · have hj2 : (j : Int) < 32 := by have := hkk.out; omega
          obtain ⟨r, hr⟩ : ∃ r : Int, fr H (j : Int) = r := ⟨_, rfl⟩
          have HR := Lib.hid hr
          have HFT := Lib.hid (HF.out.fits (m := m) hr hj)
          clear hjk hr
          by_cases h1 : r < m
          · have d1 : decide (r < m) = true := decide_eq_true h1
            have HN := Lib.hid (show sm = true ↔ ∃ q, q < j + 1 ∧ fits H m q = true by
              rw [HSM.out]
              constructor
              · rintro ⟨q, hq, hf⟩; exact ⟨q, by omega, hf⟩
              · rintro ⟨q, hq, hf⟩
                by_cases e : q = j
                · subst e; rw [HFT.out] at hf; simp at hf; omega
                · exact ⟨q, by omega, hf⟩)
            clear h1
            go_wp2_with fail
            refine (h_free l H (j : Int) _ h0).mono ?_
            rw [HR.out]
            rintro e w1 ⟨rfl, n1, hw1⟩
            have h1 : Ho w1 l H := by rw [hw1]; exact h0.drewN _
            have b1 : Below w.heap.size w w1 := by rw [hw1]; exact below_drewN b0 _
            clear hw1 h0 b0
            go_wp2_with fail
            go_roundg (gk - 1)
            case measure => have := HJK.out; omega
            case rel => exact ⟨j + 1, sm, rfl, by go_num, by have := HJK.out; omega, HN.out, h1, b1⟩
          · have d1 : decide (r < m) = false := dec_f h1
            have hfj : fits H m j = true := by rw [HFT.out]; simp; omega
            obtain ⟨hg, hle, heq⟩ := fitT_of HT.out (j := j) (by have := hkk.out; omega) hfj
            subst hg
            obtain ⟨r', hr'⟩ : ∃ r : Int, fr H (b : Int) = r := ⟨_, rfl⟩
            have HR' := Lib.hid hr'
            rw [hr', HR.out] at hle heq
            have d2 : decide (r < r') = false := dec_f (by omega)
            have HN := Lib.hid (show ∃ q, q < j + 1 ∧ fits H m q = true from ⟨j, by omega, hfj⟩)
            clear h1 hfj hr' HFT
            by_cases he : r' = r
            · have hnb : ¬ j < b := by have := heq he; omega
              have HR2 := Lib.hid (HR'.out.trans he)
              clear hle heq HR' d2 he
              have d2 : decide (r < r) = false := dec_f (by omega)
              go_wp2_with fail
              refine (h_free l H (j : Int) _ h0).mono ?_
              rw [HR.out]
              rintro e w1 ⟨rfl, n1, hw1⟩
              have h1 : Ho w1 l H := by rw [hw1]; exact h0.drewN _
              have b1 : Below w.heap.size w w1 := by rw [hw1]; exact below_drewN b0 _
              clear hw1 h0 b0
              go_wp2_with fail
              refine (h_free l H (j : Int) _ h1).mono ?_
              rw [HR.out]
              rintro e w2 ⟨rfl, n2, hw2⟩
              have h2 : Ho w2 l H := by rw [hw2]; exact h1.drewN _
              have b2 : Below w.heap.size w w2 := by rw [hw2]; exact below_drewN b1 _
              clear hw2 h1 b1
              go_wp2_with fail
              refine (h_free l H (b : Int) _ h2).mono ?_
              rw [HR2.out]
              rintro e w3 ⟨rfl, n3, hw3⟩
              have h3 : Ho w3 l H := by rw [hw3]; exact h2.drewN _
              have b3 : Below w.heap.size w w3 := by rw [hw3]; exact below_drewN b2 _
              clear hw3 h2 b2
              go_wp2_with fail
              refine (h_free l H (j : Int) _ h3).mono ?_
              rw [HR.out]
              rintro e w4 ⟨rfl, n4, hw4⟩
              have h4 : Ho w4 l H := by rw [hw4]; exact h3.drewN _
              have b4 : Below w.heap.size w w4 := by rw [hw4]; exact below_drewN b3 _
              clear hw4 h3 b3
              go_wp2_with fail
              refine (h_free l H (b : Int) _ h4).mono ?_
              rw [HR2.out]
              rintro e w5 ⟨rfl, n5, hw5⟩
              have h5 : Ho w5 l H := by rw [hw5]; exact h4.drewN _
              have b5 : Below w.heap.size w w5 := by rw [hw5]; exact below_drewN b4 _
              clear hw5 h4 b4
              go_wp2_with fail
              go_roundg (gk - 1)
              case measure => have := HJK.out; omega
              case rel => exact ⟨j + 1, true, rfl, by go_num, by have := HJK.out; omega, ⟨fun _ => HN.out, fun _ => rfl⟩, h5, b5⟩
            · have d3 : (r == r') = false := by simp; omega
              clear hle heq he
              go_wp2_with fail
              refine (h_free l H (j : Int) _ h0).mono ?_
              rw [HR.out]
              rintro e w1 ⟨rfl, n1, hw1⟩
              have h1 : Ho w1 l H := by rw [hw1]; exact h0.drewN _
              have b1 : Below w.heap.size w w1 := by rw [hw1]; exact below_drewN b0 _
              clear hw1 h0 b0
              go_wp2_with fail
              refine (h_free l H (j : Int) _ h1).mono ?_
              rw [HR.out]
              rintro e w2 ⟨rfl, n2, hw2⟩
              have h2 : Ho w2 l H := by rw [hw2]; exact h1.drewN _
              have b2 : Below w.heap.size w w2 := by rw [hw2]; exact below_drewN b1 _
              clear hw2 h1 b1
              go_wp2_with fail
              refine (h_free l H (b : Int) _ h2).mono ?_
              rw [HR'.out]
              rintro e w3 ⟨rfl, n3, hw3⟩
              have h3 : Ho w3 l H := by rw [hw3]; exact h2.drewN _
              have b3 : Below w.heap.size w w3 := by rw [hw3]; exact below_drewN b2 _
              clear hw3 h2 b2
              go_wp2_with fail
              refine (h_free l H (j : Int) _ h3).mono ?_
              rw [HR.out]
              rintro e w4 ⟨rfl, n4, hw4⟩
              have h4 : Ho w4 l H := by rw [hw4]; exact h3.drewN _
              have b4 : Below w.heap.size w w4 := by rw [hw4]; exact below_drewN b3 _
              clear hw4 h3 b3
              go_wp2_with fail
              refine (h_free l H (b : Int) _ h4).mono ?_
              rw [HR'.out]
              rintro e w5 ⟨rfl, n5, hw5⟩
              have h5 : Ho w5 l H := by rw [hw5]; exact h4.drewN _
              have b5 : Below w.heap.size w w5 := by rw [hw5]; exact below_drewN b4 _
              clear hw5 h4 b4
              go_wp2_with fail
              go_roundg (gk - 1)
              case measure => have := HJK.out; omega
              case rel => exact ⟨j + 1, true, rfl, by go_num, by have := HJK.out; omega, ⟨fun _ => HN.out, fun _ => rfl⟩, h5, b5⟩
        · obtain rfl : j = i := by omega
          obtain rfl := fitT_all HF.out HT.out HSM.out hkk.out
          clear hjk hj
          cases g with
          | false =>
            go_wp2_with fail
            go_ret
            exact ⟨rfl, b0⟩
          | true =>
            obtain ⟨q1, q2, _⟩ := fitT_some H m 32 (by rw [HT.out])
            rw [HT.out] at q1 q2
            have hu : upB H (b : Int) = true := by unfold fits at q2; simp at q2; exact q2.1
            obtain ⟨s, u, hv⟩ := up_some hu
            have hmr : m ≤ (s : Int) - (u : Int) := by unfold fits at q2; simp at q2; rw [fr_of hv] at q2; exact q2.2
            obtain ⟨e1, e2⟩ := tk_ok (H := H) (m := m) hv hm0.out hmr
            clear q1 q2 hu hv hmr
            go_wp2_with fail
            refine (h_take l H (b : Int) m _ h0).mono ?_
            rw [e1, e2]
            rintro e w3 ⟨rfl, h3, g3⟩
            have b3 := below_row b0 hll g3 b0.size
            go_wp2_with fail
            go_ret
            exact ⟨rfl, b3⟩

end Go.Proofs.Ythmmobhbakmbpaa.W
