/- The law EventJoins: its walk. Made by mk_evr.py. -/
import Derived.Test.YtkfhgdnlieaedaaEvP
namespace Go.Proofs.Ytkfhgdnlieaedaa.W
open Go.RowKit

theorem evsB_app (a b : List Ev) : evsB (a ++ b) = evsB a ++ evsB b := by simp [evsB]
theorem right_app {a b : List Ev} (ha : ∀ e ∈ a, right e) (hb : ∀ e ∈ b, right e) : ∀ e ∈ a ++ b, right e := fun e he => (List.mem_append.1 he).elim (ha e) (hb e)

set_option maxRecDepth 100000 in
set_option maxHeartbeats 3200000 in
theorem ejoins_walk (a0 : Option Addr) (k cap : Nat) (Z : Nat → Int) (a1 : Option Addr) (k' cap' : Nat) (Z' : Nat → Int) (w : World) (L0 : Lies w w.heap.size a0 (zs Z (k * 10))) (L1 : Lies w w.heap.size a1 (zs Z' (k' * 10))) (hm : k ≤ 9223372036854775807) (hm' : k' ≤ 9223372036854775807) :
    Calls Try.prog 7 #[.slice a0 k cap, .slice a1 k' cap'] w fun e w' => e = .returned (.bool true) ∧ Below w.heap.size w w' := by
  obtain ⟨i0, hi0, hz0, hz1, hz2⟩ := info_parts infoB1
  by_cases h40 : 40 < k
  · go_enter Try.func7, Try.ntmps7
    go_wp2_with fail
    refine (head16 _).mono ?_
    rintro e w1 ⟨rfl, hb1⟩
    go_wp2_with fail
    go_ret
    exact ⟨rfl, hb1⟩
  · by_cases h41 : 40 < k'
    · go_enter Try.func7, Try.ntmps7
      go_wp2_with fail
      refine (head16 _).mono ?_
      rintro e w1 ⟨rfl, hb1⟩
      go_wp2_with fail
      go_ret
      exact ⟨rfl, hb1⟩
    · clear hm hm'
      go_enter Try.func7, Try.ntmps7
      go_wp2_with fail
      refine (head16 _).mono ?_
      rintro e w1 ⟨rfl, b1⟩
      go_upto_region 7 with (fail)
      have bz : Below w.heap.size w ((w1.alloc (.cells #[] 5)).alloc (.cells #[] 5)) := (b1.alloc b1.size _).alloc (b1.alloc b1.size _).size _
      obtain ⟨s0, hs0⟩ : ∃ s0, w1.heap.size = s0 := ⟨_, rfl⟩
      try rw [hs0]
      clear b1 hs0
      generalize (w1.alloc (.cells #[] 5)).alloc (.cells #[] 5) = w3 at bz ⊢
      go_wp2_with fail
      go_loopg [5, 36] k (fun gk vb vi wr => ∃ (i mx cx : Nat) (Ax : Option Addr) (Rx : List Ev), vi = .int .i64 (i : Int) ∧ i + gk = k ∧ vb = .slice Ax mx cx ∧ mx ≤ cx ∧ Hid (Rx.length ≤ i) ∧ Hid (mx = (evsB Rx).length) ∧ Hid (∀ e ∈ Rx, right e) ∧ Lies wr wr.heap.size Ax ((evsB Rx).map bv) ∧ Below w.heap.size w wr)
      case atStart => exact ⟨0, 0, 0, some ⟨s0, 0, none⟩, [], rfl, by omega, rfl, Nat.le_refl _, Lib.hid (Nat.le_refl _), rfl, Lib.hid (by simp), Lies.nil _ _ _, bz⟩
      case round =>
        clear bz
        obtain ⟨i, mx, cx, Ax, Rx, rfl, hik, rfl, hmx, HNx, HMx, HRx, hX, bz⟩ := hrel
        have HIK := Lib.hid hik
        by_cases hi : i < k
        · obtain ⟨ad, rfl, hab, hcell⟩ := (L0.below bz (Nat.le_refl _)).num (j := i * 10) (by omega)
          have hli : (i : Int) < (k : Int) := by omega
          have hm31 : mx ≤ 1240 := by
            have h1 := evsB_len Rx HRx.out
            have h2 := HMx.out
            have h3 := HNx.out
            omega
          have x0 : wr.cell? (ad.add (i * 10)) = some (.int .i64 (Z (i * 10))) := hcell (i * 10) (by omega)
          have x1 := cell_in (c := 0) (hcell (i * 10 + 1) (by omega))
          have x2 := cell_in (c := 1) (hcell (i * 10 + 2) (by omega))
          have x3 := cell_in (c := 2) (hcell (i * 10 + 3) (by omega))
          have x4 := cell_in (c := 3) (hcell (i * 10 + 4) (by omega))
          have x5 := cell_in (c := 4) (hcell (i * 10 + 5) (by omega))
          have x6 := cell_in (c := 5) (hcell (i * 10 + 6) (by omega))
          have x7 := cell_in (c := 6) (hcell (i * 10 + 7) (by omega))
          have x8 := cell_in (c := 7) (hcell (i * 10 + 8) (by omega))
          have x9 := cell_in (c := 8) (hcell (i * 10 + 9) (by omega))
          obtain ⟨q0, hq0⟩ : ∃ q, Z (i * 10) = q := ⟨_, rfl⟩
          obtain ⟨q1, hq1⟩ : ∃ q, Z (i * 10 + 1) = q := ⟨_, rfl⟩
          obtain ⟨q2, hq2⟩ : ∃ q, Z (i * 10 + 2) = q := ⟨_, rfl⟩
          obtain ⟨q3, hq3⟩ : ∃ q, Z (i * 10 + 3) = q := ⟨_, rfl⟩
          obtain ⟨q4, hq4⟩ : ∃ q, Z (i * 10 + 4) = q := ⟨_, rfl⟩
          obtain ⟨q5, hq5⟩ : ∃ q, Z (i * 10 + 5) = q := ⟨_, rfl⟩
          obtain ⟨q6, hq6⟩ : ∃ q, Z (i * 10 + 6) = q := ⟨_, rfl⟩
          obtain ⟨q7, hq7⟩ : ∃ q, Z (i * 10 + 7) = q := ⟨_, rfl⟩
          obtain ⟨q8, hq8⟩ : ∃ q, Z (i * 10 + 8) = q := ⟨_, rfl⟩
          obtain ⟨q9, hq9⟩ : ∃ q, Z (i * 10 + 9) = q := ⟨_, rfl⟩
          rw [hq0] at x0
          rw [hq1] at x1
          rw [hq2] at x2
          rw [hq3] at x3
          rw [hq4] at x4
          rw [hq5] at x5
          rw [hq6] at x6
          rw [hq7] at x7
          rw [hq8] at x8
          rw [hq9] at x9
          clear hq0 hq1 hq2 hq3 hq4 hq5 hq6 hq7 hq8 hq9
          clear hik hcell
          go_upto_region 10 with (fail)
          have hbox := heap_alloc_new wr (.cells #[.int .i64 q0, .int .i64 q1, .int .i64 q2, .int .i64 q3, .int .i64 q4, .int .i64 q5, .int .i64 q6, .int .i64 q7, .int .i64 q8, .int .i64 q9] 27)
          have bb : Below wr.heap.size wr (wr.alloc (.cells #[.int .i64 q0, .int .i64 q1, .int .i64 q2, .int .i64 q3, .int .i64 q4, .int .i64 q5, .int .i64 q6, .int .i64 q7, .int .i64 q8, .int .i64 q9] 27)) := (Below.refl _ _).alloc (Nat.le_refl _) _
          have hL5 := (hX.below bb (Nat.le_refl _)).more bb.size
          skip
          have b5 : Below w.heap.size w (wr.alloc (.cells #[.int .i64 q0, .int .i64 q1, .int .i64 q2, .int .i64 q3, .int .i64 q4, .int .i64 q5, .int .i64 q6, .int .i64 q7, .int .i64 q8, .int .i64 q9] 27)) := bz.alloc bz.size _
          obtain ⟨e0, he0⟩ : ∃ e0, wr.heap.size = e0 := ⟨_, rfl⟩
          rw [he0] at hbox
          try rw [he0]
          clear x0 x1 x2 x3 x4 x5 x6 x7 x8 x9 hX bz bb
          generalize wr.alloc (.cells #[.int .i64 q0, .int .i64 q1, .int .i64 q2, .int .i64 q3, .int .i64 q4, .int .i64 q5, .int .i64 q6, .int .i64 q7, .int .i64 q8, .int .i64 q9] 27) = w5 at hbox hL5 b5 ⊢
          have ⟨t0, t1, t2, t3, t4, t5, t6, t7, t8, t9, _⟩ := ten_of hbox
          clear hbox
          by_cases hr : right ⟨q0, q1, q2, q3, q4, q5, q6, q7, q8, q9⟩
          · have HRT := Lib.hid hr
            clear hr
            go_wp2_with fail
            refine (put_yes Ax mx cx q0 q1 q2 q3 q4 q5 q6 q7 q8 q9 (evsB Rx) w5 HMx.out hL5 (by omega) HRT.out).mono ?_
            rintro e w7 ⟨A2, m2, c2, HM2, rfl, hmc2, hcm2, hL2, hbl2, b67⟩
            have b7 : Below w.heap.size w w7 := b5.trans (b67.mono b5.size)
            skip
            clear t0 t1 t2 t3 t4 t5 t6 t7 t8 t9 hbl2 hcm2
            rw [evsB_one] at HM2 hL2
            go_wp2_with fail
            go_roundg (gk - 1)
            case measure => have := HIK.out; omega
            case rel => exact ⟨i + 1, m2, c2, A2, Rx ++ [⟨q0, q1, q2, q3, q4, q5, q6, q7, q8, q9⟩], by go_num, by have := HIK.out; omega, rfl, hmc2, Lib.hid (by have := HNx.out; rw [List.length_append]; simp; omega), HM2, Lib.hid (right_snoc HRx.out HRT.out), hL2, b7⟩
          · have HRT := Lib.hid hr
            clear hr
            go_wp2_with fail
            refine (put_no Ax mx cx q0 q1 q2 q3 q4 q5 q6 q7 q8 q9 (evsB Rx) w5 HMx.out hL5 (by omega) HRT.out).mono ?_
            rintro e w7 ⟨A2, m2, c2, HM2, rfl, hmc2, hcm2, hL2, hbl2, b67⟩
            have b7 : Below w.heap.size w w7 := b5.trans (b67.mono b5.size)
            skip
            clear t0 t1 t2 t3 t4 t5 t6 t7 t8 t9 hbl2 hcm2
            go_wp2_with fail
            go_roundg (gk - 1)
            case measure => have := HIK.out; omega
            case rel => exact ⟨i + 1, m2, c2, A2, Rx, by go_num, by have := HIK.out; omega, rfl, hmc2, Lib.hid (by have := HNx.out; omega), HM2, HRx, hL2, b7⟩
        · obtain rfl : i = k := by omega
          clear hik HIK hi
          go_wp2_with fail
          go_loopg [6, 46] k' (fun gk vb vi wr => ∃ (i my cy : Nat) (Ay : Option Addr) (Ry : List Ev), vi = .int .i64 (i : Int) ∧ i + gk = k' ∧ vb = .slice Ay my cy ∧ my ≤ cy ∧ Hid (Ry.length ≤ i) ∧ Hid (my = (evsB Ry).length) ∧ Hid (∀ e ∈ Ry, right e) ∧ Lies wr wr.heap.size Ay ((evsB Ry).map bv) ∧ Lies wr wr.heap.size Ax ((evsB Rx).map bv) ∧ Below w.heap.size w wr)
          case atStart => exact ⟨0, 0, 0, some ⟨s0 + 1, 0, none⟩, [], rfl, by omega, rfl, Nat.le_refl _, Lib.hid (Nat.le_refl _), rfl, Lib.hid (by simp), Lies.nil _ _ _, hX, bz⟩
          case round =>
            clear bz
            obtain ⟨i, my, cy, Ay, Ry, rfl, hik, rfl, hmy, HNy, HMy, HRy, hY, hX, bz⟩ := hrel
            have HIK := Lib.hid hik
            by_cases hi : i < k'
            · obtain ⟨ad, rfl, hab, hcell⟩ := (L1.below bz (Nat.le_refl _)).num (j := i * 10) (by omega)
              have hli : (i : Int) < (k' : Int) := by omega
              have hm31 : my ≤ 1240 := by
                have h1 := evsB_len Ry HRy.out
                have h2 := HMy.out
                have h3 := HNy.out
                omega
              have x0 : wr.cell? (ad.add (i * 10)) = some (.int .i64 (Z' (i * 10))) := hcell (i * 10) (by omega)
              have x1 := cell_in (c := 0) (hcell (i * 10 + 1) (by omega))
              have x2 := cell_in (c := 1) (hcell (i * 10 + 2) (by omega))
              have x3 := cell_in (c := 2) (hcell (i * 10 + 3) (by omega))
              have x4 := cell_in (c := 3) (hcell (i * 10 + 4) (by omega))
              have x5 := cell_in (c := 4) (hcell (i * 10 + 5) (by omega))
              have x6 := cell_in (c := 5) (hcell (i * 10 + 6) (by omega))
              have x7 := cell_in (c := 6) (hcell (i * 10 + 7) (by omega))
              have x8 := cell_in (c := 7) (hcell (i * 10 + 8) (by omega))
              have x9 := cell_in (c := 8) (hcell (i * 10 + 9) (by omega))
              obtain ⟨q0, hq0⟩ : ∃ q, Z' (i * 10) = q := ⟨_, rfl⟩
              obtain ⟨q1, hq1⟩ : ∃ q, Z' (i * 10 + 1) = q := ⟨_, rfl⟩
              obtain ⟨q2, hq2⟩ : ∃ q, Z' (i * 10 + 2) = q := ⟨_, rfl⟩
              obtain ⟨q3, hq3⟩ : ∃ q, Z' (i * 10 + 3) = q := ⟨_, rfl⟩
              obtain ⟨q4, hq4⟩ : ∃ q, Z' (i * 10 + 4) = q := ⟨_, rfl⟩
              obtain ⟨q5, hq5⟩ : ∃ q, Z' (i * 10 + 5) = q := ⟨_, rfl⟩
              obtain ⟨q6, hq6⟩ : ∃ q, Z' (i * 10 + 6) = q := ⟨_, rfl⟩
              obtain ⟨q7, hq7⟩ : ∃ q, Z' (i * 10 + 7) = q := ⟨_, rfl⟩
              obtain ⟨q8, hq8⟩ : ∃ q, Z' (i * 10 + 8) = q := ⟨_, rfl⟩
              obtain ⟨q9, hq9⟩ : ∃ q, Z' (i * 10 + 9) = q := ⟨_, rfl⟩
              rw [hq0] at x0
              rw [hq1] at x1
              rw [hq2] at x2
              rw [hq3] at x3
              rw [hq4] at x4
              rw [hq5] at x5
              rw [hq6] at x6
              rw [hq7] at x7
              rw [hq8] at x8
              rw [hq9] at x9
              clear hq0 hq1 hq2 hq3 hq4 hq5 hq6 hq7 hq8 hq9
              clear hik hcell
              go_upto_region 15 with (fail)
              have hbox := heap_alloc_new wr (.cells #[.int .i64 q0, .int .i64 q1, .int .i64 q2, .int .i64 q3, .int .i64 q4, .int .i64 q5, .int .i64 q6, .int .i64 q7, .int .i64 q8, .int .i64 q9] 27)
              have bb : Below wr.heap.size wr (wr.alloc (.cells #[.int .i64 q0, .int .i64 q1, .int .i64 q2, .int .i64 q3, .int .i64 q4, .int .i64 q5, .int .i64 q6, .int .i64 q7, .int .i64 q8, .int .i64 q9] 27)) := (Below.refl _ _).alloc (Nat.le_refl _) _
              have hL5 := (hY.below bb (Nat.le_refl _)).more bb.size
              have hX5 := (hX.below bb (Nat.le_refl _)).more bb.size
              have b5 : Below w.heap.size w (wr.alloc (.cells #[.int .i64 q0, .int .i64 q1, .int .i64 q2, .int .i64 q3, .int .i64 q4, .int .i64 q5, .int .i64 q6, .int .i64 q7, .int .i64 q8, .int .i64 q9] 27)) := bz.alloc bz.size _
              obtain ⟨e0, he0⟩ : ∃ e0, wr.heap.size = e0 := ⟨_, rfl⟩
              rw [he0] at hbox
              try rw [he0]
              clear x0 x1 x2 x3 x4 x5 x6 x7 x8 x9 hY bz bb hX
              generalize wr.alloc (.cells #[.int .i64 q0, .int .i64 q1, .int .i64 q2, .int .i64 q3, .int .i64 q4, .int .i64 q5, .int .i64 q6, .int .i64 q7, .int .i64 q8, .int .i64 q9] 27) = w5 at hbox hL5 b5 hX5 ⊢
              have ⟨t0, t1, t2, t3, t4, t5, t6, t7, t8, t9, _⟩ := ten_of hbox
              clear hbox
              by_cases hr : right ⟨q0, q1, q2, q3, q4, q5, q6, q7, q8, q9⟩
              · have HRT := Lib.hid hr
                clear hr
                go_wp2_with fail
                refine (put_yes Ay my cy q0 q1 q2 q3 q4 q5 q6 q7 q8 q9 (evsB Ry) w5 HMy.out hL5 (by omega) HRT.out).mono ?_
                rintro e w7 ⟨A2, m2, c2, HM2, rfl, hmc2, hcm2, hL2, hbl2, b67⟩
                have b7 : Below w.heap.size w w7 := b5.trans (b67.mono b5.size)
                have hX7 := (hX5.below b67 (Nat.le_refl _)).more b67.size
                clear t0 t1 t2 t3 t4 t5 t6 t7 t8 t9 hbl2 hcm2
                rw [evsB_one] at HM2 hL2
                go_wp2_with fail
                go_roundg (gk - 1)
                case measure => have := HIK.out; omega
                case rel => exact ⟨i + 1, m2, c2, A2, Ry ++ [⟨q0, q1, q2, q3, q4, q5, q6, q7, q8, q9⟩], by go_num, by have := HIK.out; omega, rfl, hmc2, Lib.hid (by have := HNy.out; rw [List.length_append]; simp; omega), HM2, Lib.hid (right_snoc HRy.out HRT.out), hL2, hX7, b7⟩
              · have HRT := Lib.hid hr
                clear hr
                go_wp2_with fail
                refine (put_no Ay my cy q0 q1 q2 q3 q4 q5 q6 q7 q8 q9 (evsB Ry) w5 HMy.out hL5 (by omega) HRT.out).mono ?_
                rintro e w7 ⟨A2, m2, c2, HM2, rfl, hmc2, hcm2, hL2, hbl2, b67⟩
                have b7 : Below w.heap.size w w7 := b5.trans (b67.mono b5.size)
                have hX7 := (hX5.below b67 (Nat.le_refl _)).more b67.size
                clear t0 t1 t2 t3 t4 t5 t6 t7 t8 t9 hbl2 hcm2
                go_wp2_with fail
                go_roundg (gk - 1)
                case measure => have := HIK.out; omega
                case rel => exact ⟨i + 1, m2, c2, A2, Ry, by go_num, by have := HIK.out; omega, rfl, hmc2, Lib.hid (by have := HNy.out; omega), HM2, HRy, hL2, hX7, b7⟩
            · obtain rfl : i = k' := by omega
              clear hik HIK hi
              have hlx : Rx.length ≤ 40 := by have := HNx.out; omega
              have hly : Ry.length ≤ 40 := by have := HNy.out; omega
              have hmx31 : mx ≤ 1240 := by have h1 := evsB_len Rx HRx.out; have h2 := HMx.out; omega
              have hmy31 : my ≤ 1240 := by have h1 := evsB_len Ry HRy.out; have h2 := HMy.out; omega
              go_wp2_with fail
              refine (all_any Ax mx cx (evsB Rx) wr HMx.out hX (evsB_byte Rx) (by omega)).mono ?_
              rintro e w2 ⟨l1, n1, d1, er1, c1, A1, G1, T1, rfl, HN1, HALL1, its1, HP1, hG1, b2⟩
              obtain ⟨rfl, hd1, rfl⟩ := allR_self HRx.out (by omega) HALL1.out
              obtain rfl : mx = d1 := by rw [hd1, HMx.out]
              have hX2 := (hX.below b2 (Nat.le_refl _)).more b2.size
              have hY2 := (hY.below b2 (Nat.le_refl _)).more b2.size
              have b12 : Below w.heap.size w w2 := bz.trans (b2.mono bz.size)
              clear hX hY bz b2 HALL1 hd1 hG1
              go_wp2_with fail
              refine (all_any Ay my cy (evsB Ry) w2 HMy.out hY2 (evsB_byte Ry) (by omega)).mono ?_
              rintro e w3 ⟨l2, n2, d2, er2, c2, A2, G2, T2, rfl, HN2, HALL2, its2, HP2, hG2, b3⟩
              obtain ⟨rfl, hd2, rfl⟩ := allR_self HRy.out (by omega) HALL2.out
              obtain rfl : my = d2 := by rw [hd2, HMy.out]
              have o3 := Only.of_below (S := fun _ => False) b3
              have its1b := its1.kept o3 (fun _ _ q => q)
              have hX3 := (hX2.below b3 (Nat.le_refl _)).more b3.size
              have hY3 := (hY2.below b3 (Nat.le_refl _)).more b3.size
              have b13 : Below w.heap.size w w3 := b12.trans (b3.mono b12.size)
              clear hX2 hY2 b12 b3 HALL2 hd2 hG2 its1 o3
              go_wp2_with (first
                | (at_builtin; refine wpList_appN rfl _ _ 24 rfl w3.heap.size 5 i0 (.int .u8 0) 1 Try.underlying24 hi0 hz0 hz1 hz2 rfl w3.heap.size 0 0 [] rfl (own_empty (Nat.le_refl _)) Ax mx cx w3.heap.size ((evsB l1).map bv) rfl (by simp [HMx.out]) (hX3.keep fun b hb => Below.heap_alloc _ _ _ hb) (ones_u8 _) (by omega) (by omega) (by simp) ?_; intro g7 cap7 w7 own7 hg7 hat7 hlt7; simp only [Nat.zero_add, List.nil_append] at own7 ⊢)
                | (at_builtin; refine wpList_appN rfl _ _ 24 rfl w3.heap.size 5 i0 (.int .u8 0) 1 Try.underlying24 hi0 hz0 hz1 hz2 rfl g7 mx cap7 ((evsB l1).map bv) rfl own7 Ay my cy w3.heap.size ((evsB l2).map bv) rfl (by simp [HMy.out]) (hY3.below (((Below.refl w3.heap.size w3).alloc (Nat.le_refl _) (.cells #[] 5)).grown hg7 (by simp) (fun j hj => by injection hj with hj; omega)) (Nat.le_refl _)) (ones_u8 _) (by omega) (by omega) (by have := hg7.size; simp at this; omega) ?_; intro g8 cap8 w8 own8 hg8 hat8 hlt8))
              have b7 : Below w3.heap.size w3 w7 := ((Below.refl w3.heap.size w3).alloc (Nat.le_refl _) (.cells #[] 5)).grown hg7 (by simp) (fun j hj => by injection hj with hj; omega)
              have hgb7 := (own_cap own7).2.2
              have b8 : Below w3.heap.size w3 w8 := b7.grown hg8 b7.size (fun j hj => by injection hj with hj; omega)
              have o8 := Only.of_below (S := fun _ => False) b8
              have its1c := its1b.kept o8 (fun _ _ q => q)
              have its2c := its2.kept o8 (fun _ _ q => q)
              have b18 : Below w.heap.size w w8 := b13.trans (b8.mono b13.size)
              have hL8 := lies_own own8
              rw [← List.map_append, ← evsB_app] at hL8
              have hcap8 := (own_cap own8).1
              have HM8 : Hid (mx + my = (evsB (l1 ++ l2)).length) := Lib.hid (by rw [evsB_app, List.length_append, ← HMx.out, ← HMy.out])
              clear own7 own8 hg7 hg8 hat7 hat8 hlt7 hlt8 hgb7 b7 b8 o8 its1b its2 b13 hX3 hY3
              refine (all_any (some ⟨g8, 0, none⟩) (mx + my) cap8 (evsB (l1 ++ l2)) w8 HM8.out hL8 (evsB_byte _) (by omega)).mono ?_
              rintro e w9 ⟨l3, n3, d3, er3, c3, A3, G3, T3, rfl, HN3, HALL3, its3, HP3, hG3, b9⟩
              obtain ⟨hl3, hd3, rfl⟩ := allR_self (right_app HRx.out HRy.out) (by rw [List.length_append]; omega) HALL3.out
              obtain rfl : d3 = mx + my := by rw [hd3, HM8.out]
              have hn3 : n3 = n1 + n2 := by rw [HN3.out, hl3, List.length_append, ← HN1.out, ← HN2.out]
              have o9 := Only.of_below (S := fun _ => False) b9
              have its1d := its1c.kept o9 (fun _ _ q => q)
              have its2d := its2c.kept o9 (fun _ _ q => q)
              have b19 : Below w.heap.size w w9 := b18.trans (b9.mono b18.size)
              have hn140 : n1 ≤ 40 := by rw [HN1.out]; omega
              have hn240 : n2 ≤ 40 := by rw [HN2.out]; omega
              have HL3 := Lib.hid hl3
              subst hn3
              clear its1c its2c b18 b9 o9 hL8 HALL3 hd3 hl3 hG3
              go_wp2_with fail
              go_loopg [117] (n1 + n2) (fun gk vi wr => ∃ i : Nat, vi = .int .i64 (i : Int) ∧ i + gk = n1 + n2 ∧ Its ec 10 27 wr (.slice A1 n1 c1) G1 n1 T1 ∧ Its ec 10 27 wr (.slice A2 n2 c2) G2 n2 T2 ∧ Its ec 10 27 wr (.slice A3 (n1 + n2) c3) G3 (n1 + n2) T3 ∧ Below w.heap.size w wr)
              case atStart => exact ⟨0, rfl, by omega, its1d, its2d, its3, b19⟩
              case round =>
                clear its1d its2d its3 b19 hX
                obtain ⟨i, rfl, hik, it1, it2, it3, bz⟩ := hrel
                have HIK := Lib.hid hik
                by_cases hi : i < n1 + n2
                · obtain ⟨g3, cap3, hG3, hs3, row3⟩ := it3.some_ (by omega)
                  injection hs3 with z1 z2 z3
                  subst z1 z3
                  have hc3 := row3.cap_.1
                  have hii : (i : Int) < (n1 : Int) + (n2 : Int) := by omega
                  obtain ⟨⟨q0, q1, q2, q3, q4, q5, q6, q7, q8, q9⟩, hx⟩ : ∃ x, l3[i]? = some x := ⟨_, List.getElem?_eq_getElem (by rw [← HN3.out]; exact hi)⟩
                  have hT3 := HP3.out i _ hx
                  have x0 : wr.cell? ⟨g3, i * 10, none⟩ = some (.int .i64 q0) := row3.cell (c := 0) hi (by rw [hT3]; rfl) rfl
                  have x1 : wr.cell? ⟨g3, i * 10 + 1, none⟩ = some (.int .i64 q1) := row3.cell (c := 1) hi (by rw [hT3]; rfl) rfl
                  have x2 : wr.cell? ⟨g3, i * 10 + 2, none⟩ = some (.int .i64 q2) := row3.cell (c := 2) hi (by rw [hT3]; rfl) rfl
                  have x3 : wr.cell? ⟨g3, i * 10 + 3, none⟩ = some (.int .i64 q3) := row3.cell (c := 3) hi (by rw [hT3]; rfl) rfl
                  have x4 : wr.cell? ⟨g3, i * 10 + 4, none⟩ = some (.int .i64 q4) := row3.cell (c := 4) hi (by rw [hT3]; rfl) rfl
                  have x5 : wr.cell? ⟨g3, i * 10 + 5, none⟩ = some (.int .i64 q5) := row3.cell (c := 5) hi (by rw [hT3]; rfl) rfl
                  have x6 : wr.cell? ⟨g3, i * 10 + 6, none⟩ = some (.int .i64 q6) := row3.cell (c := 6) hi (by rw [hT3]; rfl) rfl
                  have x7 : wr.cell? ⟨g3, i * 10 + 7, none⟩ = some (.int .i64 q7) := row3.cell (c := 7) hi (by rw [hT3]; rfl) rfl
                  have x8 : wr.cell? ⟨g3, i * 10 + 8, none⟩ = some (.int .i64 q8) := row3.cell (c := 8) hi (by rw [hT3]; rfl) rfl
                  have x9 : wr.cell? ⟨g3, i * 10 + 9, none⟩ = some (.int .i64 q9) := row3.cell (c := 9) hi (by rw [hT3]; rfl) rfl
                  rw [HL3.out] at hx
                  have HX := Lib.hid hx
                  clear hT3 hx hik
                  go_upto_region 25 with (fail)
                  have hbox := heap_alloc_new wr (.cells #[.int .i64 q0, .int .i64 q1, .int .i64 q2, .int .i64 q3, .int .i64 q4, .int .i64 q5, .int .i64 q6, .int .i64 q7, .int .i64 q8, .int .i64 q9] 27)
                  have o5 : Only wr (wr.alloc (.cells #[.int .i64 q0, .int .i64 q1, .int .i64 q2, .int .i64 q3, .int .i64 q4, .int .i64 q5, .int .i64 q6, .int .i64 q7, .int .i64 q8, .int .i64 q9] 27)) (fun _ => False) := (Only.refl wr _).alloc _
                  have it15 := it1.kept o5 (fun _ _ q => q)
                  have it25 := it2.kept o5 (fun _ _ q => q)
                  have it35 := it3.kept o5 (fun _ _ q => q)
                  have b5 : Below w.heap.size w (wr.alloc (.cells #[.int .i64 q0, .int .i64 q1, .int .i64 q2, .int .i64 q3, .int .i64 q4, .int .i64 q5, .int .i64 q6, .int .i64 q7, .int .i64 q8, .int .i64 q9] 27)) := bz.alloc bz.size _
                  obtain ⟨e0, he0⟩ : ∃ e0, wr.heap.size = e0 := ⟨_, rfl⟩
                  rw [he0] at hbox
                  try rw [he0]
                  clear x0 x1 x2 x3 x4 x5 x6 x7 x8 x9 it1 it2 it3 bz o5 row3
                  generalize wr.alloc (.cells #[.int .i64 q0, .int .i64 q1, .int .i64 q2, .int .i64 q3, .int .i64 q4, .int .i64 q5, .int .i64 q6, .int .i64 q7, .int .i64 q8, .int .i64 q9] 27) = w5 at hbox it15 it25 it35 b5 ⊢
                  have ⟨t0, t1, t2, t3, t4, t5, t6, t7, t8, t9, _⟩ := ten_of hbox
                  clear hbox
                  by_cases hlt : i < n1
                  · obtain ⟨g1, cap1, hG1, hs1, row1⟩ := it15.some_ (by omega)
                    injection hs1 with z1 z2 z3
                    subst z1 z3
                    have hc1 := row1.cap_.1
                    have hx1 := HX.out
                    rw [List.getElem?_append_left (by rw [← HN1.out]; exact hlt)] at hx1
                    have hT1 := HP1.out i _ hx1
                    have y0 : w5.cell? ⟨g1, i * 10, none⟩ = some (.int .i64 q0) := row1.cell (c := 0) hlt (by rw [hT1]; rfl) rfl
                    have y1 : w5.cell? ⟨g1, i * 10 + 1, none⟩ = some (.int .i64 q1) := row1.cell (c := 1) hlt (by rw [hT1]; rfl) rfl
                    have y2 : w5.cell? ⟨g1, i * 10 + 2, none⟩ = some (.int .i64 q2) := row1.cell (c := 2) hlt (by rw [hT1]; rfl) rfl
                    have y3 : w5.cell? ⟨g1, i * 10 + 3, none⟩ = some (.int .i64 q3) := row1.cell (c := 3) hlt (by rw [hT1]; rfl) rfl
                    have y4 : w5.cell? ⟨g1, i * 10 + 4, none⟩ = some (.int .i64 q4) := row1.cell (c := 4) hlt (by rw [hT1]; rfl) rfl
                    have y5 : w5.cell? ⟨g1, i * 10 + 5, none⟩ = some (.int .i64 q5) := row1.cell (c := 5) hlt (by rw [hT1]; rfl) rfl
                    have y6 : w5.cell? ⟨g1, i * 10 + 6, none⟩ = some (.int .i64 q6) := row1.cell (c := 6) hlt (by rw [hT1]; rfl) rfl
                    have y7 : w5.cell? ⟨g1, i * 10 + 7, none⟩ = some (.int .i64 q7) := row1.cell (c := 7) hlt (by rw [hT1]; rfl) rfl
                    have y8 : w5.cell? ⟨g1, i * 10 + 8, none⟩ = some (.int .i64 q8) := row1.cell (c := 8) hlt (by rw [hT1]; rfl) rfl
                    have y9 : w5.cell? ⟨g1, i * 10 + 9, none⟩ = some (.int .i64 q9) := row1.cell (c := 9) hlt (by rw [hT1]; rfl) rfl
                    have hge : decide ((n1 : Int) ≤ (i : Int)) = false := by simp; omega
                    have hgn : decide (n1 ≤ i) = false := by simp; omega
                    clear hx1 hT1
                    go_wp2_with fail
                    go_quiet (fail)
                    have oq : Only w5 (w5.drewN nq) (fun _ => False) := (Only.refl w5 _).drewN nq
                    have it16 := it15.kept oq (fun _ _ q => q)
                    have it26 := it25.kept oq (fun _ _ q => q)
                    have it36 := it35.kept oq (fun _ _ q => q)
                    have b6 : Below w.heap.size w (w5.drewN nq) := below_drewN b5 nq
                    clear t0 t1 t2 t3 t4 t5 t6 t7 t8 t9 y0 y1 y2 y3 y4 y5 y6 y7 y8 y9 it15 it25 it35 b5
                    generalize w5.drewN nq = w6 at it16 it26 it36 b6 ⊢
                    go_wp2_with fail
                    go_roundg (n1 + n2 - (i + 1))
                    case measure => have := HIK.out; omega
                    case rel => exact ⟨i + 1, by go_num, by omega, it16, it26, it36, b6⟩
                  · obtain ⟨d, hd⟩ : ∃ d, i - n1 = d := ⟨_, rfl⟩
                    have hdn : d < n2 := by omega
                    have hdi : (i : Int) - (n1 : Int) = (d : Int) := by omega
                    obtain ⟨g2, cap2, hG2, hs2, row2⟩ := it25.some_ (by omega)
                    injection hs2 with z1 z2 z3
                    subst z1 z3
                    have hc2 := row2.cap_.1
                    have hx1 := HX.out
                    rw [List.getElem?_append_right (by rw [← HN1.out]; omega), ← HN1.out, hd] at hx1
                    have hT1 := HP2.out d _ hx1
                    have y0 : w5.cell? ⟨g2, d * 10, none⟩ = some (.int .i64 q0) := row2.cell (c := 0) hdn (by rw [hT1]; rfl) rfl
                    have y1 : w5.cell? ⟨g2, d * 10 + 1, none⟩ = some (.int .i64 q1) := row2.cell (c := 1) hdn (by rw [hT1]; rfl) rfl
                    have y2 : w5.cell? ⟨g2, d * 10 + 2, none⟩ = some (.int .i64 q2) := row2.cell (c := 2) hdn (by rw [hT1]; rfl) rfl
                    have y3 : w5.cell? ⟨g2, d * 10 + 3, none⟩ = some (.int .i64 q3) := row2.cell (c := 3) hdn (by rw [hT1]; rfl) rfl
                    have y4 : w5.cell? ⟨g2, d * 10 + 4, none⟩ = some (.int .i64 q4) := row2.cell (c := 4) hdn (by rw [hT1]; rfl) rfl
                    have y5 : w5.cell? ⟨g2, d * 10 + 5, none⟩ = some (.int .i64 q5) := row2.cell (c := 5) hdn (by rw [hT1]; rfl) rfl
                    have y6 : w5.cell? ⟨g2, d * 10 + 6, none⟩ = some (.int .i64 q6) := row2.cell (c := 6) hdn (by rw [hT1]; rfl) rfl
                    have y7 : w5.cell? ⟨g2, d * 10 + 7, none⟩ = some (.int .i64 q7) := row2.cell (c := 7) hdn (by rw [hT1]; rfl) rfl
                    have y8 : w5.cell? ⟨g2, d * 10 + 8, none⟩ = some (.int .i64 q8) := row2.cell (c := 8) hdn (by rw [hT1]; rfl) rfl
                    have y9 : w5.cell? ⟨g2, d * 10 + 9, none⟩ = some (.int .i64 q9) := row2.cell (c := 9) hdn (by rw [hT1]; rfl) rfl
                    have hw1 : IntKind.i64.wrap ((i : Int) - (n1 : Int)) = (d : Int) := by rw [IntKind.wrap_i64, hdi]; omega
                    have hlt' : decide ((i : Int) < (n1 : Int)) = false := by simp; omega
                    have hltn : decide (i < n1) = false := by simp; omega
                    have hge : (n1 : Int) ≤ (i : Int) := by omega
                    have hgn : n1 ≤ i := by omega
                    have hdm : (d : Int) < (n2 : Int) := by omega
                    have HD := Lib.hid hd
                    clear hx1 hT1 hd hlt hdi
                    go_wp2_with fail
                    go_quiet (fail)
                    have oq : Only w5 (w5.drewN nq) (fun _ => False) := (Only.refl w5 _).drewN nq
                    have it16 := it15.kept oq (fun _ _ q => q)
                    have it26 := it25.kept oq (fun _ _ q => q)
                    have it36 := it35.kept oq (fun _ _ q => q)
                    have b6 : Below w.heap.size w (w5.drewN nq) := below_drewN b5 nq
                    clear t0 t1 t2 t3 t4 t5 t6 t7 t8 t9 y0 y1 y2 y3 y4 y5 y6 y7 y8 y9 it15 it25 it35 b5
                    generalize w5.drewN nq = w6 at it16 it26 it36 b6 ⊢
                    go_wp2_with fail
                    go_roundg (n1 + n2 - (i + 1))
                    case measure => have := HIK.out; omega
                    case rel => exact ⟨i + 1, by go_num, by omega, it16, it26, it36, b6⟩
                · obtain rfl : i = n1 + n2 := by omega
                  go_wp2_with fail
                  go_ret
                  exact ⟨rfl, bz⟩

end Go.Proofs.Ytkfhgdnlieaedaa.W
