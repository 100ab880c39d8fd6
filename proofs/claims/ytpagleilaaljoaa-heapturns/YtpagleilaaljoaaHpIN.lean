/- The law HeapTurns: its walk. -/
import Derived.Test.YtpagleilaaljoaaHpIM
namespace Go.Proofs.Ytpagleilaaljoaa.W.HI
open Go.RowKit

set_option maxRecDepth 100000 in
set_option maxHeartbeats 3200000 in
theorem turns_body (a0 a1 : Option Addr) (n m cap0 cap1 : Nat) (vs fs : List Int) (x2 : Int) (hl0 : vs.length = n) (_hc0 : n ≤ cap0) (hl1 : fs.length = m) (_hc1 : m ≤ cap1) (w : World) (L0 : Lies w w.heap.size a0 (ints vs)) (wf0 : ∀ z ∈ vs, (Lit.int .i64 z).wf = true)
    (L1 : Lies w w.heap.size a1 (ints fs)) (wf1 : ∀ z ∈ fs, (Lit.int .i64 z).wf = true) (hn0 : 0 < n) (hn : n ≤ 60) (hm : m ≤ 60) :
    Calls Try.prog 6 #[.slice a0 n cap0, .slice a1 m cap1, .int .i64 x2] w fun e w' => e = .returned (.bool true) ∧ Below w.heap.size w w' := by
  obtain ⟨s, hs, hs1⟩ := and_nat x2 65535 16 65536 (by decide) (by decide) (by decide)
  have HS := Lib.hid hs
  have HL0 := Lib.hid hl0
  have HL1 := Lib.hid hl1
  clear hs hl0 hl1
  have hz : ((n : Int) == 0) = false := by simp; omega
  have h60 : decide ((60 : Int) < (n : Int)) = false := by simp; omega
  have h61 : decide ((60 : Int) < (m : Int)) = false := by simp; omega
  go_enter Try.func6, Try.ntmps6
  go_wp2_with fail
  refine (head8 _).mono ?_
  rintro e w1 ⟨rfl, b1⟩
  go_wp2_with fail
  refine (new_any _ _ _ w1).mono ?_
  rintro e w2 ⟨rfl, h2, b2⟩
  obtain ⟨r, hr⟩ : ∃ r, w1.heap.size = r := ⟨_, rfl⟩
  have hrlt := h2.lt _ rfl
  rw [hr] at h2 hrlt ⊢
  go_wp2_with fail
  refine (new_any _ _ _ w2).mono ?_
  rintro e w3 ⟨rfl, h3, b3⟩
  obtain ⟨t, ht⟩ : ∃ t, w2.heap.size = t := ⟨_, rfl⟩
  have b4 : Below w.heap.size w w3 := b1.trans (((b2.trans (b3.mono b2.size))).mono b1.size)
  have h4 : H2 w.heap.size w3 r t 0 0 (lst fs 0) (fun _ => none) := by
    rw [lst_zero]
    refine ⟨_, _, h2.kept (Only.of_below (S := fun _ => False) b3) (fun _ _ q => q), by rw [← ht]; exact h3, fun j q q' => by omega, fun j q => ?_, b4.size⟩
    have := b1.size
    have := b2.size
    rcases q with q | q <;> omega
  rw [ht]
  clear h2 h3 b1 b2 b3 hrlt hr ht
  go_wp2_with fail
  go_loopg [41] m (fun gk vi wr => ∃ i : Nat, vi = .int .i64 (i : Int) ∧ i + gk = m ∧ H2 w.heap.size wr r t i 0 (lst fs i) (fun _ => none) ∧ Below w.heap.size w wr)
  case atStart => exact ⟨0, rfl, by omega, h4, b4⟩
  case round =>
    clear h4 b4
    obtain ⟨i, rfl, hik, hq, bz⟩ := hrel
    have HIK := Lib.hid hik
    by_cases hi : i < m
    · obtain ⟨ad, x, ha, hab, hx, cx⟩ := (L1.below bz (Nat.le_refl _)).int (i := i) (by rw [HL1.out]; exact hi)
      subst ha
      have hii : (i : Int) < (m : Int) := by omega
      have hwx := wf1 x (List.mem_of_getElem? hx)
      have HX := Lib.hid hx
      clear hik hx
      go_wp2_with fail
      refine (p_set _ r t i 0 _ _ (i : Int) x hq (wfN i (by omega)) hwx (by omega) (i + 1) (by rw [lst_self]; rfl)).mono ?_
      rintro e w4 ⟨rfl, h4, o4⟩
      rw [lst_succ HX.out] at h4
      have b4 := bz.trans o4
      clear cx
      go_wp2_with fail
      go_roundg (gk - 1)
      case measure => have := HIK.out; omega
      case rel => exact ⟨i + 1, by go_num, by have := HIK.out; omega, h4, b4⟩
    · obtain rfl : i = m := by omega
      clear hik HIK hi
      have h5 : H2 w.heap.size wr r t i 0 (cutE fs n n) (fun _ => none) := by rw [cutE_start, HL1.out]; exact hq
      clear hq
      go_wp2_with fail
      go_loopg [11] (i - n) (fun gk vi wr => ∃ j c : Nat, vi = .int .i64 (j : Int) ∧ Hid (j + gk = max i n ∧ n ≤ j ∧ c + (j - n) = i) ∧ H2 w.heap.size wr r t c 0 (cutE fs n j) (fun _ => none) ∧ Below w.heap.size w wr)
      case atStart => exact ⟨n, i, rfl, Lib.hid ⟨by omega, by omega, by omega⟩, h5, bz⟩
      case round =>
        clear h5 bz
        obtain ⟨j, c, rfl, HJ, h5, bz⟩ := hrel
        have hjj := HJ.out
        by_cases hj : j < i
        · obtain ⟨ad, x, ha, hab, hx, cx⟩ := (L1.below bz (Nat.le_refl _)).int (i := j) (by rw [HL1.out]; exact hj)
          have hji : (j : Int) < (i : Int) := by omega
          have hat := cutE_at (n := n) hx (by omega)
          have HAT := Lib.hid hat
          have HA := Lib.hid ha
          clear hx cx hat hjj ha
          go_wp2_with fail
          refine (p_drop _ r t c 0 _ _ (j : Int) x h5 HAT.out (by have := HJ.out; omega) (c - 1) (by have := HJ.out; omega)).mono ?_
          rintro e w4 ⟨rfl, h4, o4⟩
          rw [cutE_succ fs (by have := HJ.out; omega)] at h4
          have b4 := bz.trans o4
          go_wp2_with fail
          go_roundg (gk - 1)
          case measure => have := HJ.out; omega
          case rel => exact ⟨j + 1, c - 1, by go_num, Lib.hid (by have := HJ.out; omega), h4, b4⟩
        · have hjd : decide ((j : Int) < (i : Int)) = false := by simp; omega
          rw [mixE_start vs fs n (by rw [HL1.out]; omega) (by omega)] at h5
          have h6 : H2 w.heap.size wr r t c 0 (mixE vs fs n 0) (rotE vs n s 0) := by rw [rotE_start]; exact h5
          have hc0 : c = max 0 (min n i) := by omega
          have HC0 := Lib.hid hc0
          clear h5 hjj hc0
          go_wp2_with fail
          go_loopg [66] n (fun gk vi wr => ∃ p c : Nat, vi = .int .i64 (p : Int) ∧ p + gk = n ∧ Hid (c = max p (min n i)) ∧ H2 w.heap.size wr r t c p (mixE vs fs n p) (rotE vs n s p) ∧ Below w.heap.size w wr)
          case atStart => exact ⟨0, c, rfl, by omega, HC0, h6, bz⟩
          case round =>
            clear h6 bz hjd HC0
            obtain ⟨p, c2, rfl, hpk, HC, h6, bz⟩ := hrel
            have HPK := Lib.hid hpk
            by_cases hp : p < n
            · obtain ⟨ad, x, ha, hab, hx, cx⟩ := (L0.below bz (Nat.le_refl _)).int (i := p) (by rw [HL0.out]; exact hp)
              obtain ⟨y, hy⟩ : ∃ y, (p + s) % n = y := ⟨_, rfl⟩
              have hyn : y < n := by rw [← hy]; exact Nat.mod_lt _ hn0
              obtain ⟨ad', x', ha', hab', hx', cx'⟩ := (L0.below bz (Nat.le_refl _)).int (i := y) (by rw [HL0.out]; exact hyn)
              obtain rfl : ad = ad' := by rw [ha] at ha'; injection ha'
              subst ha
              have hpi : (p : Int) < (n : Int) := by omega
              have hyi : (y : Int) < (n : Int) := by omega
              have hni : (n : Int) ≤ 60 := by omega
              have hsi : (s : Int) < 65536 := by omega
              have hwx := wf0 x (List.mem_of_getElem? hx)
              have hwx' := wf0 x' (List.mem_of_getElem? hx')
              have hrem : ((p : Int) + (s : Int)).tmod (n : Int) = (y : Int) := by rw [← hy]; exact Int.ofNat_tmod (p + s) n
              have HX := Lib.hid hx
              have HX' := Lib.hid hx'
              have HY := Lib.hid hy
              have hse := HS.out
              clear hpk hx hx' hy ha'
              have cx0 := cx
              go_wp2_with fail
              have hcn : c2 < 1073741823 := by have := HC.out; omega
              refine (p_set _ r t c2 p _ _ (p : Int) x h6 (wfN p (by omega)) hwx hcn (max (p + 1) (min n i)) (by rw [mixE_at hp, HL1.out]; have := HC.out; by_cases q : p < i <;> simp [q] <;> omega)).mono ?_
              rintro e w4 ⟨rfl, h7, o4⟩
              rw [mixE_succ fs HX.out] at h7
              have b4 := bz.trans o4
              obtain ⟨ad2, x2', ha2, hab2, hx2, cx2⟩ := (L0.below b4 (Nat.le_refl _)).int (i := y) (by rw [HL0.out]; exact hyn)
              injection ha2 with ha2
              subst ha2
              obtain rfl : x' = x2' := by rw [HX'.out] at hx2; injection hx2
              clear cx cx0 cx' hx2
              go_wp2_with fail
              refine (p_set _ t r p _ _ _ (y : Int) x' h7.swap (wfN y (by omega)) hwx' (by omega) (p + 1) (by rw [← HY.out, rotE_at vs hp]; rfl)).mono ?_
              rintro e w5 ⟨rfl, h8, o5⟩
              rw [← HY.out, rotE_succ hp (by rw [HY.out]; exact HX'.out)] at h8
              have b5 := b4.trans o5
              clear cx2 hrem hse
              go_wp2_with fail
              go_roundg (gk - 1)
              case measure => have := HPK.out; omega
              case rel => exact ⟨p + 1, _, by go_num, by have := HPK.out; omega, Lib.hid rfl, h8.swap, b5⟩
            · obtain rfl : p = n := by omega
              have hcn : c2 = p := by have := HC.out; omega
              subst hcn
              clear hpk HPK hp HC
              rw [mixE_end, rotE_end] at h6
              have hni : (c2 : Int) ≤ 60 := by omega
              clear hz h60 h61
              go_wp2_with fail
              go_loopg [15] c2 (fun gk vi wr => ∃ (q : Nat) (A A' : Int → Option Int), vi = .int .i64 (q : Int) ∧ q + gk = c2 ∧ H2 w.heap.size wr r t gk gk A A' ∧ Hid (∀ z v, A z = some v → ∃ y : Nat, z = (y : Int) ∧ y < c2) ∧ Hid (∀ z v, A' z = some v → ∃ y : Nat, z = (y : Int) ∧ y < c2) ∧ Hid (∀ v, cntV A v c2 = cntV A' v c2) ∧ Below w.heap.size w wr)
              case atStart => exact ⟨0, _, _, rfl, by omega, h6, Lib.hid (fun z v q => by obtain ⟨y, h1, h2, _⟩ := lst_some q; exact ⟨y, h1, h2⟩), Lib.hid (fun z v q => by obtain ⟨y, h1, h2, _⟩ := lst_some q; exact ⟨y, h1, h2⟩), Lib.hid (fun v => rfl), bz⟩
              case round =>
                clear h6 bz
                obtain ⟨q, A, A', rfl, hqk, h6, HA, HA', HV, bz⟩ := hrel
                have HQK := Lib.hid hqk
                by_cases hq : q < c2
                · have hqi : (q : Int) < (c2 : Int) := by omega
                  have hg0 : 0 < gk := by omega
                  have hg9 : gk < 1073741824 := by omega
                  have hgs : (c2 : Int) - (q : Int) = (gk : Int) := by omega
                  clear hqk
                  go_wp2_with fail
                  refine (q_min _ r gk A h6.fst hg0 hg9).mono ?_
                  rintro e w4 ⟨z, v, rfl, hzv, hmin, hzw, hvw, b4⟩
                  have h7 := h6.below b4
                  have b5 := bz.trans (b4.mono bz.size)
                  go_wp2_with fail
                  refine (q_min _ t gk A' h7.swap.fst hg0 hg9).mono ?_
                  rintro e w5 ⟨z', v', rfl, hzv', hmin', hzw', hvw', b6⟩
                  have h8 := h7.below b6
                  have b7 := b5.trans (b6.mono b5.size)
                  obtain ⟨y, hy, hyn⟩ := HA.out z v hzv
                  obtain ⟨y', hy', hyn'⟩ := HA'.out z' v' hzv'
                  obtain rfl : v' = v := by
                    have e1 : v' ≤ v := by
                      obtain ⟨u, hu1, hu2⟩ := cntV_pos (by rw [← HV.out v]; exact cntV_of hyn (by rw [← hy]; exact hzv))
                      exact hmin' _ _ hu2
                    have e2 : v ≤ v' := by
                      obtain ⟨u, hu1, hu2⟩ := cntV_pos (by rw [HV.out v']; exact cntV_of hyn' (by rw [← hy']; exact hzv'))
                      exact hmin _ _ hu2
                    omega
                  have HZV := Lib.hid hzv
                  have HZV' := Lib.hid hzv'
                  have HY := Lib.hid hy
                  have HY' := Lib.hid hy'
                  clear hzv hzv' hy hy' hmin hmin'
                  go_wp2_with fail
                  refine (q_len _ r gk A h8.fst).mono ?_
                  rintro e w6 ⟨rfl, rfl⟩
                  go_wp2_with fail
                  refine (q_len _ t gk A' h8.swap.fst).mono ?_
                  rintro e w6 ⟨rfl, rfl⟩
                  go_wp2_with fail
                  refine (p_drop _ r t gk gk A A' z v' h8 HZV.out hg9 (gk - 1) (by omega)).mono ?_
                  rintro e w6 ⟨rfl, h9, o6⟩
                  have b8 := b7.trans o6
                  go_wp2_with fail
                  refine (p_drop _ t r gk (gk - 1) A' _ z' v' h9.swap HZV'.out hg9 (gk - 1) (by omega)).mono ?_
                  rintro e w7 ⟨rfl, h10, o7⟩
                  have b9 := b8.trans o7
                  go_wp2_with fail
                  go_roundg (gk - 1)
                  case measure => omega
                  case rel =>
                    refine ⟨q + 1, _, _, by go_num, by have := HQK.out; omega, h10.swap, Lib.hid ?_, Lib.hid ?_, Lib.hid ?_, b9⟩
                    · intro z v hq; unfold updZ at hq; split at hq
                      · cases hq
                      · exact HA.out z v hq
                    · intro z v hq; unfold updZ at hq; split at hq
                      · cases hq
                      · exact HA'.out z v hq
                    · intro u
                      have e1 := cntV_drop (A := A) (v := u) (k := y) (x := v') (by rw [← HY.out]; exact HZV.out) hyn
                      have e2 := cntV_drop (A := A') (v := u) (k := y') (x := v') (by rw [← HY'.out]; exact HZV'.out) hyn'
                      have e3 := HV.out u
                      rw [HY.out, HY'.out]; omega
                · obtain rfl : q = c2 := by omega
                  obtain rfl : gk = 0 := by omega
                  clear hqk HQK
                  go_wp2_with fail
                  refine (q_len _ r 0 A h6.fst).mono ?_
                  rintro e w6 ⟨rfl, rfl⟩
                  go_wp2_with fail
                  refine (q_len _ t 0 A' h6.swap.fst).mono ?_
                  rintro e w6 ⟨rfl, rfl⟩
                  go_wp2_with fail
                  go_ret
                  exact ⟨rfl, bz⟩

set_option maxRecDepth 100000 in
set_option maxHeartbeats 1600000 in
theorem turns_walk (a0 a1 : Option Addr) (n m cap0 cap1 : Nat) (vs fs : List Int) (x2 : Int) (hl0 : vs.length = n) (hc0 : n ≤ cap0) (hl1 : fs.length = m) (hc1 : m ≤ cap1) (w : World) (L0 : Lies w w.heap.size a0 (ints vs)) (wf0 : ∀ z ∈ vs, (Lit.int .i64 z).wf = true)
    (L1 : Lies w w.heap.size a1 (ints fs)) (wf1 : ∀ z ∈ fs, (Lit.int .i64 z).wf = true) :
    Calls Try.prog 6 #[.slice a0 n cap0, .slice a1 m cap1, .int .i64 x2] w fun e w' => e = .returned (.bool true) ∧ Below w.heap.size w w' := by
  by_cases h : 0 < n ∧ n ≤ 60 ∧ m ≤ 60
  · exact turns_body a0 a1 n m cap0 cap1 vs fs x2 hl0 hc0 hl1 hc1 w L0 wf0 L1 wf1 h.1 h.2.1 h.2.2
  · clear L0 L1 wf0 wf1 hl0 hl1
    rcases Nat.eq_zero_or_pos n with hz | hz
    · subst hz
      go_enter Try.func6, Try.ntmps6
      go_wp2_with fail
      refine (head8 _).mono ?_
      rintro e w1 ⟨rfl, b1⟩
      go_wp2_with fail
      go_ret
      exact ⟨rfl, b1⟩
    · have hzd : ((n : Int) == 0) = false := by simp; omega
      by_cases h6 : 60 < n
      · have h60 : decide ((60 : Int) < (n : Int)) = true := by simp; omega
        go_enter Try.func6, Try.ntmps6
        go_wp2_with fail
        refine (head8 _).mono ?_
        rintro e w1 ⟨rfl, b1⟩
        go_wp2_with fail
        go_ret
        exact ⟨rfl, b1⟩
      · have h60 : decide ((60 : Int) < (n : Int)) = false := by simp; omega
        have h61 : decide ((60 : Int) < (m : Int)) = true := by simp; omega
        go_enter Try.func6, Try.ntmps6
        go_wp2_with fail
        refine (head8 _).mono ?_
        rintro e w1 ⟨rfl, b1⟩
        go_wp2_with fail
        go_ret
        exact ⟨rfl, b1⟩
end Go.Proofs.Ytpagleilaaljoaa.W.HI
