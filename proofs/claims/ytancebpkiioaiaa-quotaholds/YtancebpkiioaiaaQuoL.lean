/- The law QuotaHolds: its walk. -/
import Derived.Test.YtancebpkiioaiaaQuoK
namespace Go.Proofs.Ytancebpkiioaiaa.W
open Go.RowKit

/-- The blocks of the law: a ledger, and what is reserved. -/
structure Bh (w wr : World) (l gh n : Nat) (A : Int → Option Nat) (F : Int → Option Fn) : Prop where
  led : Lg wr l A F
  hld : wr.heap[gh]? = some (.cells (hrow F n).toArray 3 (0, 0))
  bel : Below w.heap.size w wr
theorem Bh.step {w wr w' : World} {l gh n : Nat} {A : Int → Option Nat} {F F' : Int → Option Fn} (h : Bh w wr l gh n A F) (hl : w.heap.size ≤ l) (h1 : gh ≠ l) (hg : wr.grownBy w' (some l)) (hs : Same F F') (hL : Lg w' l A F') : Bh w w' l gh n A F' :=
  ⟨hL, by rw [hs.hrow]; exact row_kept h.hld hg h1, below_row h.bel hl hg h.bel.size⟩
theorem begF_ne {A : Int → Option Nat} {F : Int → Option Fn} {g f : Int} (h : f ≠ g) : begF A F g f = F f := by
  unfold begF; split
  · exact updZ_ne _ _ h
  · rfl
theorem busy_ne {A : Int → Option Nat} {F : Int → Option Fn} {g f : Int} (h : f ≠ g) : busy (begF A F g) f = busy F f := by unfold busy; rw [begF_ne h]
theorem rsv_pos {F : Int → Option Fn} {f : Int} (h : 0 < rsv F f) : ∃ o, F f = some (o, rsv F f, busy F f) := by
  cases q : F f with
  | none => rw [rsv_none q] at h; omega
  | some v => obtain ⟨o, r, b⟩ := v; exact ⟨o, by rw [rsv_some q, busy_some q]⟩

set_option maxRecDepth 100000 in
set_option maxHeartbeats 3200000 in
theorem holds_walk (x0 x3 : Int) (a1 a2 : Option Addr) (k1 k2 c1 c2 : Nat) (xs1 xs2 : List Int) (hl1 : xs1.length = k1) (_hc1 : k1 ≤ c1) (hl2 : xs2.length = k2) (_hc2 : k2 ≤ c2) (w : World) (L1 : Lies w w.heap.size a1 (ints xs1)) (L2 : Lies w w.heap.size a2 (ints xs2)) :
    Calls Try.prog 10 #[.int .i64 x0, .slice a1 k1 c1, .slice a2 k2 c2, .int .i64 x3] w fun e w' => e = .returned (.bool true) ∧ Below w.heap.size w w' := by
  have HL1 := Lib.hid hl1
  have HL2 := Lib.hid hl2
  clear hl1 hl2
  by_cases hk0 : k1 = 0
  · subst hk0
    go_enter Try.func10, Try.ntmps10
    go_wp2_with fail
    refine (head11 _).mono ?_
    rintro e w1 ⟨rfl, b1⟩
    go_wp2_with fail
    go_ret
    exact ⟨rfl, b1⟩
  have hkz : ((k1 : Int) == 0) = false := by simp; omega
  by_cases hk1 : 12 < k1
  · have hki : decide ((12 : Int) < (k1 : Int)) = true := by simp; omega
    clear hk0
    go_enter Try.func10, Try.ntmps10
    go_wp2_with fail
    refine (head11 _).mono ?_
    rintro e w1 ⟨rfl, b1⟩
    go_wp2_with fail
    go_ret
    exact ⟨rfl, b1⟩
  · have hki : decide ((12 : Int) < (k1 : Int)) = false := by simp; omega
    by_cases hk2 : 200 < k2
    · have hkj : decide ((200 : Int) < (k2 : Int)) = true := by simp; omega
      clear hk0 hk1
      go_enter Try.func10, Try.ntmps10
      go_wp2_with fail
      refine (head11 _).mono ?_
      rintro e w1 ⟨rfl, b1⟩
      go_wp2_with fail
      go_ret
      exact ⟨rfl, b1⟩
    · have hkj : decide ((200 : Int) < (k2 : Int)) = false := by simp; omega
      have hk12 := Lib.hid (show k1 ≤ 12 by omega)
      have hk2L := Lib.hid (show k2 ≤ 200 by omega)
      have hkp := Lib.hid (show 0 < k1 by omega)
      obtain ⟨lim, hlm, hlm1⟩ := and_nat x0 63 6 64 (by decide) (by decide) (by decide)
      have hlI : (lim : Int) < 64 := by omega
      obtain ⟨i0, hi0, hz0, hz1, hz2⟩ := info_parts infoQ
      clear hk1 hk2 hk0
      go_enter Try.func10, Try.ntmps10
      go_wp2_with fail
      refine (head11 _).mono ?_
      rintro e w1 ⟨rfl, b1⟩
      go_wp2_with fail
      refine (l_new w1).mono ?_
      rintro e w2 ⟨rfl, h2, b2⟩
      obtain ⟨l, hl⟩ : ∃ l, w1.heap.size = l := ⟨_, rfl⟩
      have bb2 := b1.trans (b2.mono b1.size)
      have hll : w.heap.size ≤ l := by rw [← hl]; exact b1.size
      rw [hl] at h2
      rw [hl]
      clear hl b1 b2
      go_wp2_with fail
      refine (l_setA l _ _ 0 (lim : Int) _ h2).mono ?_
      rintro e w3 ⟨rfl, h3, g3⟩
      rw [(acc0 (lim := lim) (by omega)).2] at h3
      have bb3 := below_row bb2 hll g3 bb2.size
      clear h2 g3 bb2 hki hkj hlm
      have hk12' := hk12.out
      go_upto_region 7 with (fail)
      go_upto_region 8 with (at_make; refine wpList_make_row rfl (.tmp 38) (.tmp 38) 32 rfl 3 i0 (.int .i64 0) Try.underlying32 hi0 hz0 hz1 rfl _ _ (k1 : Int) (k1 : Int) k1 k1 rfl rfl rfl rfl (by omega) (by rw [hz2]; omega) (by omega) ?_; intro w4 HG4 hg4 hs4)
      rw [hrow_no] at HG4
      have h4 := h3.keep (grown_below hg4) h3.lt
      have bb4 := bb3.trans ((grown_below hg4).mono bb3.size)
      have hlh : w3.heap.size ≠ l := by have := h3.lt; omega
      have hlh2 : w.heap.size ≤ w3.heap.size := bb3.size
      obtain ⟨gh, hgh⟩ : ∃ g, w3.heap.size = g := ⟨_, rfl⟩
      rw [hgh] at HG4 hlh hlh2
      rw [hgh]
      have hB5 : Bh w w4 l gh k1 (A0 lim) noF := ⟨h4, HG4.out, bb4⟩
      clear hgh hs4 hg4 h3 bb3 h4 HG4 bb4
      go_wp2_with fail
      go_loopg [42] k1 (fun gk vi wr => ∃ (i : Nat) (F : Int → Option Fn), vi = .int .i64 (i : Int) ∧ i + gk = k1 ∧ Js lim i F ∧ Bh w wr l gh k1 (A0 lim) F)
      case atStart => exact ⟨0, noF, rfl, by omega, js_no lim, hB5⟩
      case round =>
        clear hB5
        obtain ⟨i, F, rfl, hik, hJ, hB⟩ := hrel
        have HIK := Lib.hid hik
        by_cases hi : i < k1
        · obtain ⟨ad, x, hA, hadb, hx, hcell⟩ := (L1.below hB.bel (Nat.le_refl _)).int (i := i) (by rw [HL1.out]; exact hi)
          subst hA
          obtain ⟨r, hr, hr1⟩ := and_nat x 7 3 8 (by decide) (by decide) (by decide)
          have hrI : (r : Int) < 8 := by omega
          have hcode := hJ.code (i := i) (r := r) (by omega) (Nat.le_refl _) (by omega)
          clear hik hx
          go_wp2_with fail
          refine (l_setF l _ _ (i : Int) 0 (r : Int) _ hB.led).mono ?_
          rintro e w6 ⟨rfl, h6, g6⟩
          clear hcell
          by_cases hc : lim < sR F 0 + r
          · rw [if_pos hc] at hcode
            rw [funF_no hcode] at h6
            rw [hcode]
            have hB6 := hB.step hll hlh g6 (Same.refl F) h6
            clear hcode hc
            go_wp2_with fail
            go_roundg (gk - 1)
            case measure => have := HIK.out; omega
            case rel => exact ⟨i + 1, F, by go_num, by have := HIK.out; omega, hJ.skip, hB6⟩
          · rw [if_neg hc] at hcode
            rw [hJ.fun hcode] at h6
            rw [hcode]
            obtain ⟨hJ6, _⟩ := hJ.put (r := r) (by omega) hc
            have HH6 := Lib.hid (row_kept hB.hld g6 hlh)
            have bb6 := below_row hB.bel hll g6 hB.bel.size
            have hlenH := Lib.hid (show i < (hrow F k1).length by rw [hrow_len]; exact hi)
            clear hcode hc hB g6
            go_wp2_with (with_reducible refine wpList_store_in rfl 3 (.tmp 57) (.tmp 56) rfl sizeI gh i rfl .i64 (r : Int) rfl _ _ HH6.out hlenH.out ?_; intro w8 HH8 hg8; have h8 := h6.off hg8 (Ne.symm hlh); have bb8 := below_row bb6 hlh2 hg8 bb6.size)
            rw [hrow_put F r hi] at HH8
            go_roundg (gk - 1)
            case measure => have := HIK.out; omega
            case rel => exact ⟨i + 1, _, by go_num, by have := HIK.out; omega, hJ6, ⟨h8, HH8.out, bb8⟩⟩
        · obtain rfl : i = k1 := by omega
          clear hik HIK hi
          have hK := hJ.kp
          have hzero : ∀ x, busy F x = 0 := fun x => by
            cases q : F x with
            | none => exact busy_none q
            | some v => obtain ⟨o, r, b⟩ := v; rw [busy_some q]; exact (hJ.zero _ _ _ _ q).2
          clear hJ
          obtain ⟨U, hU, hU1⟩ : ∃ U : Nat, IntKind.u64.wrap x3 = (U : Int) ∧ U < 18446744073709551616 := by
            refine ⟨(IntKind.u64.wrap x3).toNat, ?_, ?_⟩ <;> (have h1 : IntKind.u64.wrap x3 = x3 % 18446744073709551616 := by { simp [IntKind.wrap, IntKind.signed, IntKind.bits] }) <;> rw [h1] <;> omega
          obtain ⟨f, hf⟩ : ∃ f, U % i = f := ⟨_, rfl⟩
          have hfi : f < i := by rw [← hf]; exact Nat.mod_lt _ hkp.out
          have hfI : (U : Int) % (i : Int) = (f : Int) := by rw [← hf]; exact (Int.natCast_emod U i).symm
          have hUI : (U : Int) < 18446744073709551616 := by omega
          have hiI : (i : Int) ≤ 12 := by omega
          have hiu : IntKind.u64.wrap (i : Int) = (i : Int) := by simp [IntKind.wrap, IntKind.signed, IntKind.bits]; omega
          go_upto_region 15 with (fail)
          clear hU hU1 hUI hf hfI hiu
          go_wp2_with fail
          go_loopg [68] k2 (fun gk vi wr => ∃ (j : Nat) (F : Int → Option Fn), vi = .int .i64 (j : Int) ∧ j + gk = k2 ∧ Kp lim i F ∧ busy F (f : Int) = 0 ∧ Bh w wr l gh i (A0 lim) F)
          case atStart => exact ⟨0, F, rfl, by omega, hK, hzero _, hB⟩
          case round =>
            clear hK hB hzero
            clear F
            obtain ⟨j, F, rfl, hjk, hK, hbz, hB⟩ := hrel
            have HJK := Lib.hid hjk
            have HBZ := Lib.hid hbz
            clear hbz
            by_cases hj : j < k2
            · obtain ⟨ad, x, hA, hadb, hx, hcell⟩ := (L2.below hB.bel (Nat.le_refl _)).int (i := j) (by rw [HL2.out]; exact hj)
              subst hA
              obtain ⟨y, hy, hy1'⟩ := and_nat x 255 8 256 (by decide) (by decide) (by decide)
              have hyI : (y : Int) < 256 := by omega
              have hk200 : (k2 : Int) ≤ 200 := by have := hk2L.out; omega
              obtain ⟨g, hg⟩ : ∃ g, y % i = g := ⟨_, rfl⟩
              have hgI : (y : Int) % (i : Int) = (g : Int) := by rw [← hg]; exact (Int.natCast_emod y i).symm
              have hiz : ¬ i = 0 := by have := hkp.out; omega
              clear hjk hx hg
              by_cases hgf : g = f
              · subst hgf
                go_wp2_with fail
                go_roundg (gk - 1)
                case measure => have := HJK.out; omega
                case rel => exact ⟨j + 1, F, by go_num, by have := HJK.out; omega, hK, HBZ.out, hB⟩
              · have hgn : ((g : Int) == (f : Int)) = false := by simp; omega
                go_wp2_with fail
                refine (l_begin l _ _ (g : Int) _ hB.led).mono ?_
                rintro e w6 ⟨rfl, h6, g6⟩
                obtain ⟨hK6, _, hSm⟩ := hK.beg hB.led.ab (g : Int)
                have hB6 := hB.step hll hlh g6 hSm h6
                have hbz6 := busy_ne (A := A0 lim) (F := F) (g := (g : Int)) (f := (f : Int)) (by omega)
                rw [HBZ.out] at hbz6
                have HBZ6 := Lib.hid hbz6
                clear hcell hy hgI hgn hbz6
                go_wp2_with fail
                go_roundg (gk - 1)
                case measure => have := HJK.out; omega
                case rel => exact ⟨j + 1, _, by go_num, by have := HJK.out; omega, hK6, HBZ6.out, hB6⟩
            · clear hjk HJK
              obtain ⟨r, hr⟩ : ∃ r, rsv F (f : Int) = r := ⟨_, rfl⟩
              have hrb : r ≤ 1000 := by
                rw [← hr]
                cases q : F (f : Int) with
                | none => rw [rsv_none q]; omega
                | some v => obtain ⟨o, r', b⟩ := v; rw [rsv_some q]; have := hB.led.ab.f0 _ _ _ _ q; omega
              have hrI : (r : Int) ≤ 1000 := by omega
              have HR := Lib.hid hr
              clear hr
              have hfI : (f : Int) < (i : Int) := by omega
              go_wp2_with fail
              go_loopg [16] r (fun gk vi wr => ∃ (q : Nat) (F : Int → Option Fn), vi = .int .i64 (q : Int) ∧ q + gk = r ∧ Kp lim i F ∧ busy F (f : Int) = q ∧ rsv F (f : Int) = r ∧ Bh w wr l gh i (A0 lim) F)
              case atStart => exact ⟨0, F, rfl, by omega, hK, HBZ.out, HR.out, hB⟩
              case round =>
                clear hK hB HBZ HR
                clear F
                obtain ⟨q, F, rfl, hqk, hK, hbq, hr, hB⟩ := hrel
                have HQK := Lib.hid hqk
                have HBQ := Lib.hid hbq
                have HR := Lib.hid hr
                have ch := cellL hB.hld f _ (hrow_at F hfi)
                rw [hr] at ch
                clear hbq hr
                by_cases hq : q < r
                · have hqI : (q : Int) < (r : Int) := by omega
                  obtain ⟨o, hF⟩ := rsv_pos (F := F) (f := (f : Int)) (by rw [HR.out]; omega)
                  rw [HR.out, HBQ.out] at hF
                  obtain rfl : o = 0 := (hK.zero _ _ _ _ hF).1
                  have hmay := hK.hold (by omega) hF hq
                  have hbeg := begF_yes hmay hF
                  have HM := Lib.hid hmay
                  have HBG := Lib.hid hbeg
                  clear hqk hF hmay hbeg
                  go_wp2_with fail
                  refine (l_begin l _ _ (f : Int) _ hB.led).mono ?_
                  rintro e w6 ⟨rfl, h6, g6⟩
                  rw [HM.out]
                  obtain ⟨hK6, _, hSm⟩ := hK.beg hB.led.ab (f : Int)
                  have hB6 := hB.step hll hlh g6 hSm h6
                  have hb6 : busy (begF (A0 lim) F (f : Int)) (f : Int) = q + 1 := by rw [HBG.out]; exact busy_some (updZ_same _ _ _)
                  have hr6 : rsv (begF (A0 lim) F (f : Int)) (f : Int) = r := by rw [(hSm _).1]; exact HR.out
                  have HB6 := Lib.hid hb6
                  have HR6 := Lib.hid hr6
                  clear ch hb6 hr6
                  go_wp2_with fail
                  go_roundg (gk - 1)
                  case measure => have := HQK.out; omega
                  case rel => exact ⟨q + 1, _, by go_num, by have := HQK.out; omega, hK6, HB6.out, HR6.out, hB6⟩
                · obtain rfl : q = r := by omega
                  clear hqk HQK hq
                  by_cases hr0 : q = 0
                  · subst hr0
                    go_wp2_with fail
                    go_ret
                    exact ⟨rfl, hB.bel⟩
                  · have hr1 : ((q : Int) == 0) = false := by simp; omega
                    obtain ⟨o, hF⟩ := rsv_pos (F := F) (f := (f : Int)) (by rw [HR.out]; omega)
                    rw [HR.out, HBQ.out] at hF
                    have HM := Lib.hid (full_may (A := A0 lim) hF (by omega))
                    clear hF
                    go_wp2_with fail
                    refine (l_begin l _ _ (f : Int) _ hB.led).mono ?_
                    rintro e w6 ⟨rfl, h6, g6⟩
                    rw [HM.out]
                    have bb6 := below_row hB.bel hll g6 hB.bel.size
                    go_wp2_with fail
                    go_ret
                    exact ⟨rfl, bb6⟩

end Go.Proofs.Ytancebpkiioaiaa.W
