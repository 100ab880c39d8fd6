/- The law QuotaBounds: its walk. -/
import Derived.Test.YtancebpkiioaiaaQuoJ
namespace Go.Proofs.Ytancebpkiioaiaa.W
open Go.RowKit

theorem infoQ : (Try.prog.info? 3).map (fun i => (i.zero, i.size, i.bytes)) = some (some (.int .i64 0), 1, 8) := by kernel_rfl
theorem infoQb : (Try.prog.info? 4).map (fun i => (i.zero, i.size, i.bytes)) = some (some (.bool false), 1, 1) := by kernel_rfl
theorem sizeI : (Try.prog.info? 3).map (·.size) = some 1 := by kernel_rfl
theorem sizeB : (Try.prog.info? 4).map (·.size) = some 1 := by kernel_rfl

/-- The blocks of the law: a ledger, what is reserved, which are there. -/
structure Bd (w wr : World) (l gh gt n : Nat) (A : Int → Option Nat) (F : Int → Option Fn) : Prop where
  led : Lg wr l A F
  hld : wr.heap[gh]? = some (.cells (hrow F n).toArray 3 (0, 0))
  the : wr.heap[gt]? = some (.cells (trow F n).toArray 4 (0, 0))
  bel : Below w.heap.size w wr
theorem Bd.step {w wr w' : World} {l gh gt n : Nat} {A : Int → Option Nat} {F F' : Int → Option Fn} (h : Bd w wr l gh gt n A F) (hl : w.heap.size ≤ l) (h1 : gh ≠ l) (h2 : gt ≠ l) (hg : wr.grownBy w' (some l)) (hs : Same F F') (hL : Lg w' l A F') : Bd w w' l gh gt n A F' :=
  ⟨hL, by rw [hs.hrow]; exact row_kept h.hld hg h1, by rw [hs.trow]; exact row_kept h.the hg h2, below_row h.bel hl hg h.bel.size⟩

set_option maxRecDepth 100000 in
set_option maxHeartbeats 3200000 in
theorem bounds_walk (x0 : Int) (a1 a2 : Option Addr) (k1 k2 c1 c2 : Nat) (xs1 xs2 : List Int) (hl1 : xs1.length = k1) (_hc1 : k1 ≤ c1) (hl2 : xs2.length = k2) (_hc2 : k2 ≤ c2) (w : World) (L1 : Lies w w.heap.size a1 (ints xs1)) (L2 : Lies w w.heap.size a2 (ints xs2)) :
    Calls Try.prog 8 #[.int .i64 x0, .slice a1 k1 c1, .slice a2 k2 c2] w fun e w' => e = .returned (.bool true) ∧ Below w.heap.size w w' := by
  have HL1 := Lib.hid hl1
  have HL2 := Lib.hid hl2
  clear hl1 hl2
  by_cases hk1 : 12 < k1
  · have hki : decide ((12 : Int) < (k1 : Int)) = true := by simp; omega
    go_enter Try.func8, Try.ntmps8
    go_wp2_with fail
    refine (head11 _).mono ?_
    rintro e w1 ⟨rfl, b1⟩
    go_wp2_with fail
    go_ret
    exact ⟨rfl, b1⟩
  · have hki : decide ((12 : Int) < (k1 : Int)) = false := by simp; omega
    by_cases hk2 : 200 < k2
    · have hkj : decide ((200 : Int) < (k2 : Int)) = true := by simp; omega
      go_enter Try.func8, Try.ntmps8
      go_wp2_with fail
      refine (head11 _).mono ?_
      rintro e w1 ⟨rfl, b1⟩
      go_wp2_with fail
      go_ret
      exact ⟨rfl, b1⟩
    · have hkj : decide ((200 : Int) < (k2 : Int)) = false := by simp; omega
      have hk12 := Lib.hid (show k1 ≤ 12 by omega)
      have hk2L := Lib.hid (show k2 ≤ 200 by omega)
      obtain ⟨lim, hlm, hlm1⟩ := and_nat x0 63 6 64 (by decide) (by decide) (by decide)
      have hlI : (lim : Int) < 64 := by omega
      obtain ⟨i0, hi0, hz0, hz1, hz2⟩ := info_parts infoQ
      obtain ⟨j0, hj0, hy0, hy1, hy2⟩ := info_parts infoQb
      clear hk1 hk2
      go_enter Try.func8, Try.ntmps8
      go_wp2_with fail
      refine (head11 _).mono ?_
      rintro e w1 ⟨rfl, b1⟩
      go_wp2_with fail
      refine (l_new w1).mono ?_
      rintro e w2 ⟨rfl, h2, b2⟩
      obtain ⟨l, hl⟩ : ∃ l, w1.heap.size = l := ⟨_, rfl⟩
      have bb2 := b1.trans (b2.mono b1.size)
      have hll : w.heap.size ≤ l := by rw [← hl]; exact b1.size
      rw [hl] at h2
      rw [hl]
      clear hl b1 b2 hlm
      go_wp2_with fail
      refine (l_setA l _ _ 0 (lim : Int) _ h2).mono ?_
      rintro e w3 ⟨rfl, h3, g3⟩
      rw [(acc0 (lim := lim) (by omega)).2] at h3
      rw [(acc0 (lim := lim) (by omega)).1]
      have bb3 := below_row bb2 hll g3 bb2.size
      clear h2 g3 bb2 hki hkj
      have hk12' := hk12.out
      go_upto_region 9 with (fail)
      go_upto_region 10 with (at_make; refine wpList_make_row rfl (.tmp 38) (.tmp 38) 32 rfl 3 i0 (.int .i64 0) Try.underlying32 hi0 hz0 hz1 rfl _ _ (k1 : Int) (k1 : Int) k1 k1 rfl rfl rfl rfl (by omega) (by rw [hz2]; omega) (by omega) ?_; intro w4 HG4 hg4 hs4)
      rw [hrow_no] at HG4
      have h4 := h3.keep (grown_below hg4) h3.lt
      have bb4 := bb3.trans ((grown_below hg4).mono bb3.size)
      have hlh : w3.heap.size ≠ l := by have := h3.lt; omega
      have hlh2 : w.heap.size ≤ w3.heap.size := bb3.size
      obtain ⟨gh, hgh⟩ : ∃ g, w3.heap.size = g := ⟨_, rfl⟩
      rw [hgh] at HG4 hlh hlh2
      rw [hgh]
      clear hgh hs4 hg4 h3 bb3
      go_upto_region 11 with (at_make; refine wpList_make_row rfl (.tmp 41) (.tmp 41) 63 rfl 4 j0 (.bool false) Try.underlying63 hj0 hy0 hy1 rfl _ _ (k1 : Int) (k1 : Int) k1 k1 rfl rfl rfl rfl (by omega) (by rw [hy2]; omega) (by omega) ?_; intro w5 HG5 hg5 hs5)
      rw [trow_no] at HG5
      have h5 := h4.keep (grown_below hg5) h4.lt
      have bb5 := bb4.trans ((grown_below hg5).mono bb4.size)
      have hlt : w4.heap.size ≠ l := by have := h4.lt; omega
      have hht : w4.heap.size ≠ gh := by have := lt_of_row HG4.out; omega
      have hlt2 : w.heap.size ≤ w4.heap.size := bb4.size
      have HG45 := Lib.hid ((Only.of_below (S := fun _ => False) (grown_below hg5)).blk (fun q => q) HG4.out)
      obtain ⟨gt, hgt⟩ : ∃ g, w4.heap.size = g := ⟨_, rfl⟩
      rw [hgt] at HG5 hlt hht hlt2
      rw [hgt]
      have hB5 : Bd w w5 l gh gt k1 (A0 lim) noF := ⟨h5, HG45.out, HG5.out, bb5⟩
      clear hgt hs5 hg5 h4 bb4 HG4 HG45 HG5 h5 bb5
      go_wp2_with fail
      go_loopg [10, 45] k1 (fun gk v10 vi wr => ∃ (i sm : Nat) (F : Int → Option Fn), v10 = .int .i64 (sm : Int) ∧ vi = .int .i64 (i : Int) ∧ i + gk = k1 ∧ Js lim i F ∧ sR F 0 = sm ∧ Bd w wr l gh gt k1 (A0 lim) F)
      case atStart => exact ⟨0, 0, noF, rfl, rfl, by omega, js_no lim, sR_no 0, hB5⟩
      case round =>
        clear hB5
        obtain ⟨i, sm, F, rfl, rfl, hik, hJ, hsm, hB⟩ := hrel
        have HIK := Lib.hid hik
        have HSM := Lib.hid hsm
        have hsI : (sm : Int) ≤ 64 := by have := hJ.sum; omega
        clear hsm
        by_cases hi : i < k1
        · obtain ⟨ad, x, hA, hadb, hx, hcell⟩ := (L1.below hB.bel (Nat.le_refl _)).int (i := i) (by rw [HL1.out]; exact hi)
          subst hA
          obtain ⟨r, hr, hr1⟩ := and_nat x 7 3 8 (by decide) (by decide) (by decide)
          have hrI : (r : Int) < 8 := by omega
          have hcode := hJ.code (i := i) (r := r) (by omega) (Nat.le_refl _) (by omega)
          rw [HSM.out] at hcode
          clear hik hx
          go_wp2_with fail
          refine (l_setF l _ _ (i : Int) 0 (r : Int) _ hB.led).mono ?_
          rintro e w6 ⟨rfl, h6, g6⟩
          clear hcell hr
          by_cases hc : lim < sm + r
          · rw [if_pos hc] at hcode
            rw [funF_no hcode] at h6
            rw [hcode]
            have hB6 := hB.step hll (Ne.symm (Ne.symm hlh)) hlt g6 (Same.refl F) h6
            clear hcode
            go_wp2_with fail
            go_roundg (gk - 1)
            case measure => have := HIK.out; omega
            case rel => exact ⟨i + 1, sm, F, rfl, by go_num, by have := HIK.out; omega, hJ.skip, HSM.out, hB6⟩
          · rw [if_neg hc] at hcode
            rw [hJ.fun hcode] at h6
            rw [hcode]
            obtain ⟨hJ6, hsm6⟩ := hJ.put (r := r) (by omega) (by rw [HSM.out]; exact hc)
            rw [HSM.out] at hsm6
            have HH6 := Lib.hid (row_kept hB.hld g6 hlh)
            have HT6 := Lib.hid (row_kept hB.the g6 hlt)
            have bb6 := below_row hB.bel hll g6 hB.bel.size
            have hlenH := Lib.hid (show i < (hrow F k1).length by rw [hrow_len]; exact hi)
            have hlenT := Lib.hid (show i < (trow F k1).length by rw [trow_len]; exact hi)
            have HS6 := Lib.hid hsm6
            clear hcode hc hB g6 hsm6
            go_wp2_with (first
              | (with_reducible refine wpList_store_boolin rfl 4 (.tmp 59) (.const (.bool true)) rfl sizeB gt i rfl true rfl _ _ HT6.out hlenT.out ?_; intro w7 HT7 hg7; have HH7 := Lib.hid (row_kept HH6.out hg7 (Ne.symm hht)); have h7 := h6.off hg7 (Ne.symm hlt); have bb7 := below_row bb6 hlt2 hg7 bb6.size)
              | (with_reducible refine wpList_store_in rfl 3 (.tmp 63) (.tmp 62) rfl sizeI gh i rfl .i64 (r : Int) rfl _ _ HH7.out hlenH.out ?_; intro w8 HH8 hg8; have HT8 := Lib.hid (row_kept HT7.out hg8 hht); have h8 := h7.off hg8 (Ne.symm hlh); have bb8 := below_row bb7 hlh2 hg8 bb7.size))
            rw [hrow_put F r hi] at HH8
            rw [trow_put F r hi] at HT8
            go_roundg (gk - 1)
            case measure => have := HIK.out; omega
            case rel => exact ⟨i + 1, sm + r, _, by go_num, by go_num, by have := HIK.out; omega, hJ6, HS6.out, ⟨h8, HH8.out, HT8.out, bb8⟩⟩
        · obtain rfl : i = k1 := by omega
          clear hik HIK hi
          have hK := hJ.kp
          clear hJ
          go_wp2_with fail
          go_loopg [70] k2 (fun gk vi wr => ∃ (j : Nat) (F : Int → Option Fn), vi = .int .i64 (j : Int) ∧ j + gk = k2 ∧ Kp lim i F ∧ sR F 0 = sm ∧ Bd w wr l gh gt i (A0 lim) F)
          case atStart => exact ⟨0, F, rfl, by omega, hK, HSM.out, hB⟩
          case round =>
            clear hK hB HSM
            clear F
            obtain ⟨j, F, rfl, hjk, hK, hsm, hB⟩ := hrel
            have HJK := Lib.hid hjk
            have HSM := Lib.hid hsm
            clear hsm
            by_cases hj : j < k2
            · obtain ⟨ad, x, hA, hadb, hx, hcell⟩ := (L2.below hB.bel (Nat.le_refl _)).int (i := j) (by rw [HL2.out]; exact hj)
              subst hA
              obtain ⟨y, hy, hy1'⟩ := and_nat x 255 8 256 (by decide) (by decide) (by decide)
              have hyI : (y : Int) < 256 := by omega
              obtain ⟨mx, hmx⟩ : ∃ m, m = max i 1 := ⟨_, rfl⟩
              have hmI : (mx : Int) = max (i : Int) 1 := by omega
              have hm1 : (1 : Int) ≤ (mx : Int) := by omega
              have hm12 : (mx : Int) ≤ 12 := by have := hk12.out; omega
              have HMI := Lib.hid hmI
              obtain ⟨c, hc⟩ : ∃ c, (bits .and .i64 x 768 == 768) = c := ⟨_, rfl⟩
              clear hjk hx hmx hmI
              have hmz : ¬ mx = 0 := by omega
              have hk200 : (k2 : Int) ≤ 200 := by have := hk2L.out; omega
              cases c with
              | true =>
                go_wp2_with (with_reducible refine wpList_max_to rfl (.tmp 77) (.const (.int .i64 1)) 3 3 rfl .i64 .i64 (i : Int) 1 (mx : Int) rfl rfl HMI.out ?_)
                refine (l_end l _ _ _ _ hB.led).mono ?_
                rintro e w6 ⟨rfl, h6, g6⟩
                obtain ⟨hK6, hS6, hSm⟩ := hK.fin hB.led.ab ((y : Int) % (mx : Int))
                have hB6 := hB.step hll hlh hlt g6 hSm h6
                rw [HSM.out] at hS6
                have HS6 := Lib.hid hS6
                clear hB hK HSM hcell hy hc hm1 hm12 hmz hS6 hSm h6 g6
                generalize endF F ((y : Int) % (mx : Int)) = F6 at hK6 hB6 HS6
                go_wp2_with fail
                go_loopg [16, 17, 91] i (fun gk v16 v17 vi wz => ∃ (q al op : Nat), v16 = .int .i64 (al : Int) ∧ v17 = .int .i64 (op : Int) ∧ vi = .int .i64 (q : Int) ∧ q + gk = i ∧ al = sumN (gB F6 0) q ∧ op = sumN (gO F6 0) q ∧ w6 = wz)
                case atStart => exact ⟨0, 0, 0, rfl, rfl, rfl, by omega, rfl, rfl, rfl⟩
                case round =>
                  obtain ⟨q, al, op, rfl, rfl, rfl, hqk, hal, hop, rfl⟩ := hrel
                  have HQK := Lib.hid hqk
                  have HAL := Lib.hid hal
                  have HOP := Lib.hid hop
                  have hb1 := sumN_bound (hB6.led.ab.gB 0) q
                  have hb2 := sumN_bound (hB6.led.ab.gO 0) q
                  have halI : (al : Int) ≤ 64000 := by have := hk12.out; omega
                  have hopI : (op : Int) ≤ 64000 := by have := hk12.out; omega
                  have hiI : (i : Int) ≤ 12 := by have := hk12.out; omega
                  clear hal hop hb1 hb2
                  by_cases hq : q < i
                  · have ch := cellL hB6.hld q _ (hrow_at F6 hq)
                    have ct := cellL hB6.the q _ (trow_at F6 hq)
                    have hqI : (q : Int) < (i : Int) := by omega
                    clear hqk
                    cases hF : F6 (q : Int) with
                    | none =>
                      rw [rsv_none hF] at ch
                      rw [hF] at ct
                      have ch' : w6.cell? ⟨gh, q, none⟩ = some (.int .i64 0) := ch
                      have ct' : w6.cell? ⟨gt, q, none⟩ = some (.bool false) := ct
                      have e1 : sumN (gB F6 0) (q + 1) = al := by rw [sumN, gB_none hF, HAL.out]; rfl
                      have e2 : sumN (gO F6 0) (q + 1) = op := by rw [sumN, gO_none hF, HOP.out]; rfl
                      have E1 := Lib.hid e1
                      have E2 := Lib.hid e2
                      have HF := Lib.hid (busy_none hF)
                      clear ch ct e1 e2 hF
                      go_wp2_with fail
                      refine (l_busy l _ _ (q : Int) _ hB6.led).mono ?_
                      rintro e w7 ⟨rfl, rfl⟩
                      rw [HF.out]
                      go_wp2_with fail
                      go_roundg (gk - 1)
                      case measure => have := HQK.out; omega
                      case rel => exact ⟨q + 1, al, op, by go_num, by go_num, by go_num, by have := HQK.out; omega, E1.out.symm, E2.out.symm, rfl⟩
                    | some v =>
                      obtain ⟨o, r, b⟩ := v
                      obtain ⟨rfl, hz⟩ := hK6.zero _ _ _ _ hF
                      have hbd := hB6.led.ab.f0 _ _ _ _ hF
                      rw [rsv_some hF] at ch
                      rw [hF] at ct
                      have ct' : w6.cell? ⟨gt, q, none⟩ = some (.bool true) := ct
                      have hbI : (b : Int) ≤ 1000 := by omega
                      have hrI : (r : Int) ≤ 1000 := by omega
                      have e1 : sumN (gB F6 0) (q + 1) = al + b := by rw [sumN, gB_some hF, HAL.out]; rfl
                      have e2 : sumN (gO F6 0) (q + 1) = op + if r = 0 then b else 0 := by rw [sumN, gO_some hF, HOP.out]; simp
                      have E1 := Lib.hid e1
                      have HF := Lib.hid (busy_some hF)
                      clear ct e1 hF hbd
                      by_cases hr : r = 0
                      · subst hr
                        rw [if_pos rfl] at e2
                        have E2 := Lib.hid e2
                        clear e2 hz
                        go_wp2_with fail
                        refine (l_busy l _ _ (q : Int) _ hB6.led).mono ?_
                        rintro e w7 ⟨rfl, rfl⟩
                        rw [HF.out]
                        go_wp2_with fail
                        go_roundg (gk - 1)
                        case measure => have := HQK.out; omega
                        case rel => exact ⟨q + 1, al + b, op + b, by go_num, by go_num, by go_num, by have := HQK.out; omega, E1.out.symm, E2.out.symm, rfl⟩
                      · rw [if_neg hr] at e2
                        have E2 := Lib.hid e2
                        have hbr := hz (by omega)
                        have hr0 : ((r : Int) == 0) = false := by simp; omega
                        have hrp : decide ((0 : Int) < (r : Int)) = true := decide_eq_true (by omega)
                        have hbd : decide ((r : Int) < (b : Int)) = false := decide_eq_false (by omega)
                        have hbN : ¬ r < b := by omega
                        have hrN : 0 < r := by omega
                        clear e2 hz hr hbr
                        go_wp2_with fail
                        refine (l_busy l _ _ (q : Int) _ hB6.led).mono ?_
                        rintro e w7 ⟨rfl, rfl⟩
                        rw [HF.out]
                        go_wp2_with fail
                        go_roundg (gk - 1)
                        case measure => have := HQK.out; omega
                        case rel => exact ⟨q + 1, al + b, op, by go_num, by go_num, by go_num, by have := HQK.out; omega, E1.out.symm, E2.out.symm, rfl⟩
                  · obtain rfl : q = i := by omega
                    have hA : al ≤ lim := by
                      have h1 := hK6.all
                      unfold sB at h1
                      rw [sumN_cut (m := q) (by have := hk12.out; omega) (fun j h1 _ => gB_none (hK6.far j h1)), ← HAL.out] at h1
                      exact h1
                    have hO : op + sm ≤ lim := by
                      have h1 := hK6.opn
                      rw [HS6.out] at h1
                      unfold sO at h1
                      rw [sumN_cut (m := q) (by have := hk12.out; omega) (fun j h1 _ => gO_none (hK6.far j h1)), ← HOP.out] at h1
                      exact h1
                    have hA1 : decide ((lim : Int) < (al : Int)) = false := decide_eq_false (by omega)
                    have hA2 : ¬ lim < al := by omega
                    have hO1 : decide ((lim : Int) - (sm : Int) < (op : Int)) = false := decide_eq_false (by omega)
                    clear hqk HQK hq hA hO
                    go_wp2_with fail
                    go_roundg (k2 - j - 1)
                    case measure => have := HJK.out; omega
                    case rel => exact ⟨j + 1, F6, by go_num, by have := HJK.out; omega, hK6, HS6.out, hB6⟩
              | false =>
                go_wp2_with (with_reducible refine wpList_max_to rfl (.tmp 77) (.const (.int .i64 1)) 3 3 rfl .i64 .i64 (i : Int) 1 (mx : Int) rfl rfl HMI.out ?_)
                refine (l_begin l _ _ _ _ hB.led).mono ?_
                rintro e w6 ⟨rfl, h6, g6⟩
                obtain ⟨hK6, hS6, hSm⟩ := hK.beg hB.led.ab ((y : Int) % (mx : Int))
                have hB6 := hB.step hll hlh hlt g6 hSm h6
                rw [HSM.out] at hS6
                have HS6 := Lib.hid hS6
                clear hB hK HSM hcell hy hc hm1 hm12 hmz hS6 hSm h6 g6
                generalize begF (A0 lim) F ((y : Int) % (mx : Int)) = F6 at hK6 hB6 HS6
                go_wp2_with fail
                go_loopg [16, 17, 91] i (fun gk v16 v17 vi wz => ∃ (q al op : Nat), v16 = .int .i64 (al : Int) ∧ v17 = .int .i64 (op : Int) ∧ vi = .int .i64 (q : Int) ∧ q + gk = i ∧ al = sumN (gB F6 0) q ∧ op = sumN (gO F6 0) q ∧ w6 = wz)
                case atStart => exact ⟨0, 0, 0, rfl, rfl, rfl, by omega, rfl, rfl, rfl⟩
                case round =>
                  obtain ⟨q, al, op, rfl, rfl, rfl, hqk, hal, hop, rfl⟩ := hrel
                  have HQK := Lib.hid hqk
                  have HAL := Lib.hid hal
                  have HOP := Lib.hid hop
                  have hb1 := sumN_bound (hB6.led.ab.gB 0) q
                  have hb2 := sumN_bound (hB6.led.ab.gO 0) q
                  have halI : (al : Int) ≤ 64000 := by have := hk12.out; omega
                  have hopI : (op : Int) ≤ 64000 := by have := hk12.out; omega
                  have hiI : (i : Int) ≤ 12 := by have := hk12.out; omega
                  clear hal hop hb1 hb2
                  by_cases hq : q < i
                  · have ch := cellL hB6.hld q _ (hrow_at F6 hq)
                    have ct := cellL hB6.the q _ (trow_at F6 hq)
                    have hqI : (q : Int) < (i : Int) := by omega
                    clear hqk
                    cases hF : F6 (q : Int) with
                    | none =>
                      rw [rsv_none hF] at ch
                      rw [hF] at ct
                      have ch' : w6.cell? ⟨gh, q, none⟩ = some (.int .i64 0) := ch
                      have ct' : w6.cell? ⟨gt, q, none⟩ = some (.bool false) := ct
                      have e1 : sumN (gB F6 0) (q + 1) = al := by rw [sumN, gB_none hF, HAL.out]; rfl
                      have e2 : sumN (gO F6 0) (q + 1) = op := by rw [sumN, gO_none hF, HOP.out]; rfl
                      have E1 := Lib.hid e1
                      have E2 := Lib.hid e2
                      have HF := Lib.hid (busy_none hF)
                      clear ch ct e1 e2 hF
                      go_wp2_with fail
                      refine (l_busy l _ _ (q : Int) _ hB6.led).mono ?_
                      rintro e w7 ⟨rfl, rfl⟩
                      rw [HF.out]
                      go_wp2_with fail
                      go_roundg (gk - 1)
                      case measure => have := HQK.out; omega
                      case rel => exact ⟨q + 1, al, op, by go_num, by go_num, by go_num, by have := HQK.out; omega, E1.out.symm, E2.out.symm, rfl⟩
                    | some v =>
                      obtain ⟨o, r, b⟩ := v
                      obtain ⟨rfl, hz⟩ := hK6.zero _ _ _ _ hF
                      have hbd := hB6.led.ab.f0 _ _ _ _ hF
                      rw [rsv_some hF] at ch
                      rw [hF] at ct
                      have ct' : w6.cell? ⟨gt, q, none⟩ = some (.bool true) := ct
                      have hbI : (b : Int) ≤ 1000 := by omega
                      have hrI : (r : Int) ≤ 1000 := by omega
                      have e1 : sumN (gB F6 0) (q + 1) = al + b := by rw [sumN, gB_some hF, HAL.out]; rfl
                      have e2 : sumN (gO F6 0) (q + 1) = op + if r = 0 then b else 0 := by rw [sumN, gO_some hF, HOP.out]; simp
                      have E1 := Lib.hid e1
                      have HF := Lib.hid (busy_some hF)
                      clear ct e1 hF hbd
                      by_cases hr : r = 0
                      · subst hr
                        rw [if_pos rfl] at e2
                        have E2 := Lib.hid e2
                        clear e2 hz
                        go_wp2_with fail
                        refine (l_busy l _ _ (q : Int) _ hB6.led).mono ?_
                        rintro e w7 ⟨rfl, rfl⟩
                        rw [HF.out]
                        go_wp2_with fail
                        go_roundg (gk - 1)
                        case measure => have := HQK.out; omega
                        case rel => exact ⟨q + 1, al + b, op + b, by go_num, by go_num, by go_num, by have := HQK.out; omega, E1.out.symm, E2.out.symm, rfl⟩
                      · rw [if_neg hr] at e2
                        have E2 := Lib.hid e2
                        have hbr := hz (by omega)
                        have hr0 : ((r : Int) == 0) = false := by simp; omega
                        have hrp : decide ((0 : Int) < (r : Int)) = true := decide_eq_true (by omega)
                        have hbd : decide ((r : Int) < (b : Int)) = false := decide_eq_false (by omega)
                        have hbN : ¬ r < b := by omega
                        have hrN : 0 < r := by omega
                        clear e2 hz hr hbr
                        go_wp2_with fail
                        refine (l_busy l _ _ (q : Int) _ hB6.led).mono ?_
                        rintro e w7 ⟨rfl, rfl⟩
                        rw [HF.out]
                        go_wp2_with fail
                        go_roundg (gk - 1)
                        case measure => have := HQK.out; omega
                        case rel => exact ⟨q + 1, al + b, op, by go_num, by go_num, by go_num, by have := HQK.out; omega, E1.out.symm, E2.out.symm, rfl⟩
                  · obtain rfl : q = i := by omega
                    have hA : al ≤ lim := by
                      have h1 := hK6.all
                      unfold sB at h1
                      rw [sumN_cut (m := q) (by have := hk12.out; omega) (fun j h1 _ => gB_none (hK6.far j h1)), ← HAL.out] at h1
                      exact h1
                    have hO : op + sm ≤ lim := by
                      have h1 := hK6.opn
                      rw [HS6.out] at h1
                      unfold sO at h1
                      rw [sumN_cut (m := q) (by have := hk12.out; omega) (fun j h1 _ => gO_none (hK6.far j h1)), ← HOP.out] at h1
                      exact h1
                    have hA1 : decide ((lim : Int) < (al : Int)) = false := decide_eq_false (by omega)
                    have hA2 : ¬ lim < al := by omega
                    have hO1 : decide ((lim : Int) - (sm : Int) < (op : Int)) = false := decide_eq_false (by omega)
                    clear hqk HQK hq hA hO
                    go_wp2_with fail
                    go_roundg (k2 - j - 1)
                    case measure => have := HJK.out; omega
                    case rel => exact ⟨j + 1, F6, by go_num, by have := HJK.out; omega, hK6, HS6.out, hB6⟩
            · clear hjk
              go_wp2_with fail
              go_ret
              exact ⟨rfl, hB.bel⟩

end Go.Proofs.Ytancebpkiioaiaa.W
