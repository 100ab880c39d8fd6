/- The law PolicyFar: its walk. -/
import Derived.Test.YtocnaopjefhbjaaPolB
namespace Go.Proofs.Ytocnaopjefhbjaa.W
open Go.RowKit
set_option linter.unusedVariables false

theorem next_last (ys : List Int) : nextI (last8 ys) = nextI ys := by
  unfold nextI; rw [last8_small (xs := last8 ys) (by rw [last8_len]; omega)]
theorem far_win {ys : List Int} {k nn : Nat} (h1 : tot (cnt ys) = min k nn) (h2 : cntO ys = k - nn) (hk : 4 ≤ k) (hn : 2 * nn < k) : win (cnt ys) (cntO ys) (last8 ys) = Win 2 (preN (nextI ys)) (endN (nextI ys)) := by
  rw [win_next (by omega) (by omega), next_last]
theorem snoc_in {ys : List Int} {x : Int} {i nn : Nat} (h1 : tot (cnt ys) = min i nn) (h2 : cntO ys = i - nn) (hi : i < nn) (x0 : 0 ≤ x) (x1 : x < 240) : tot (cnt (ys ++ [x])) = min (i + 1) nn ∧ cntO (ys ++ [x]) = i + 1 - nn := by
  rw [cnt_snoc, cntO_snoc, tot_in x0 x1]; unfold aO; rw [if_neg (by omega)]; omega
theorem snoc_out {ys : List Int} {x : Int} {i nn : Nat} (h1 : tot (cnt ys) = min i nn) (h2 : cntO ys = i - nn) (hi : nn ≤ i) (x0 : 240 ≤ x) : tot (cnt (ys ++ [x])) = min (i + 1) nn ∧ cntO (ys ++ [x]) = i + 1 - nn := by
  rw [cnt_snoc, cntO_snoc, tot_out (Or.inr x0)]; unfold aO; rw [if_pos x0]; omega

set_option maxRecDepth 100000 in
set_option maxHeartbeats 6400000 in
theorem far_walk (A : Option Addr) (k c : Nat) (xs : List Int) (near : Int) (w : World) (hk : k = xs.length) (hA : Lies w w.heap.size A (ints xs)) (hm : k ≤ 9223372036854775807) :
    Calls Try.prog 6 #[.slice A k c, .int .i64 near] w fun e w' => e = .returned (.bool true) ∧ Below w.heap.size w w' := by
  have HK := Lib.hid hk
  clear hk
  obtain ⟨i0, hi0, hz0, hz1, hz2⟩ := info_parts infoI
  obtain ⟨z, hz, z1⟩ := and_nat near 255 8 256 (by decide) (by decide) (by decide)
  by_cases h4 : k < 4
  · go_enter Try.func6, Try.ntmps6
    go_wp2_with fail
    refine (pol_head _).mono ?_
    rintro e w1 ⟨rfl, hb1⟩
    go_wp2_with fail
    go_ret
    exact ⟨rfl, hb1⟩
  have hd4 : decide ((k : Int) < 4) = false := by simp; omega
  by_cases h60 : 60 < k
  · go_enter Try.func6, Try.ntmps6
    go_wp2_with fail
    refine (pol_head _).mono ?_
    rintro e w1 ⟨rfl, hb1⟩
    go_wp2_with fail
    go_ret
    exact ⟨rfl, hb1⟩
  clear hm
  have hd60 : decide ((60 : Int) < (k : Int)) = false := by simp; omega
  obtain ⟨nn, hnn⟩ : ∃ nn, z % k = nn := ⟨_, rfl⟩
  have hnk : nn < k := by rw [← hnn]; exact Nat.mod_lt _ (by omega)
  have hrem : (z : Int).tmod (k : Int) = (nn : Int) := by rw [← hnn]; exact Int.ofNat_tmod z k
  have hrem2 : (z : Int) % (k : Int) = (nn : Int) := by rw [← hnn]; rfl
  clear hnn
  go_enter Try.func6, Try.ntmps6
  go_wp2_with fail
  refine (pol_head _).mono ?_
  rintro e w1 ⟨rfl, hb1⟩
  go_wp2_with fail
  refine (list_new _).mono ?_
  rintro e w2 ⟨rfl, hR2, hb2⟩
  obtain ⟨r, hr⟩ : ∃ r, w1.heap.size = r := ⟨_, rfl⟩
  have hrw : w.heap.size ≤ r := by rw [← hr]; exact hb1.size
  have hb3 := hb1.trans (hb2.mono hb1.size)
  rw [hr] at hR2 ⊢
  clear hb1 hb2 hr
  go_wp2_with fail
  refine (ring_new _).mono ?_
  rintro e w3 ⟨rfl, hS3, hb4⟩
  obtain ⟨s, hs⟩ : ∃ s, w2.heap.size = s := ⟨_, rfl⟩
  have hsw : w.heap.size ≤ s := by rw [← hs]; exact hb3.size
  have hrs : r ≠ s := by have := hR2.lt; omega
  have hR3 := hR2.keep hb4 hR2.lt
  have hb5 := hb3.trans (hb4.mono hb3.size)
  rw [hs] at hS3 ⊢
  clear hb3 hb4 hR2 hs
  by_cases hn2 : k ≤ 2 * nn
  · have hn2i : (k : Int) ≤ 2 * (nn : Int) := by omega
    go_wp2_with fail
    go_ret
    exact ⟨rfl, hb5⟩
  have hn2i : decide ((k : Int) ≤ 2 * (nn : Int)) = false := by simp; omega
  go_wp2_with fail
  clear hz hrem hrem2 hn2i
  obtain ⟨bb, hbb⟩ : ∃ bb, w3.heap.size = bb := ⟨_, rfl⟩
  have hrb : r < bb := by rw [← hbb]; exact hR3.lt
  have hsb : s < bb := by rw [← hbb]; exact hS3.lt
  have hb6 : Below w3.heap.size w3 (w3.alloc (.cells #[] 2)) := (Below.refl _ _).alloc (Nat.le_refl _) _
  have hR4 := hR3.keep hb6 hR3.lt
  have hS4 := hS3.keep hb6 hS3.lt
  have hb7 := hb5.trans (hb6.mono hb5.size)
  have own4 : (w3.alloc (.cells #[] 2)).ownsRow bb 2 1 (.slice (some ⟨bb, 0, none⟩) 0 0) 0 [] := by rw [← hbb]; exact own_empty (Nat.le_refl _)
  have hwb : w.heap.size ≤ bb := by rw [← hbb]; exact hb5.size
  have hs4 : bb ≤ (w3.alloc (.cells #[] 2)).heap.size := by rw [← hbb]; simp
  rw [hbb]
  generalize w3.alloc (.cells #[] 2) = w4 at hR4 hS4 hb7 own4 hs4 ⊢
  clear hb6 hb5 hR3 hS3 hbb
  go_loopg [7, 37] k (fun gk vs vi wr => ∃ (i g cap : Nat) (ys : List Int), vi = .int .i64 (i : Int) ∧ vs = .slice (some ⟨g, 0, none⟩) i cap ∧ i + gk = k ∧ Hid (ys.length = i) ∧ Hid (tot (cnt ys) = min i nn) ∧ Hid (cntO ys = i - nn) ∧ Hl wr r ys ∧ Rg wr s (last8 ys) ∧ wr.ownsRow bb 2 1 (.slice (some ⟨g, 0, none⟩) i cap) i (ints ys) ∧ Below w.heap.size w wr ∧ bb ≤ wr.heap.size)
  case atStart => exact ⟨0, bb, 0, [], rfl, rfl, by omega, Lib.hid rfl, Lib.hid (by rw [cnt_nil, tot, sumTo_zero]; omega), Lib.hid (by rw [cntO_nil]; omega), hR4, hS4, own4, hb7, hs4⟩
  case round =>
    obtain ⟨i, g, cap, ys, rfl, rfl, hik, HY, HT, HO, hRz, hSz, own, hbz, hsz⟩ := hrel
    have HIK := Lib.hid hik
    clear hR4 hS4 hb7 own4 hs4
    by_cases hi : i < k
    · obtain ⟨ad, x, rfl, hblk, hx, hcx⟩ := hA.int (show i < xs.length by rw [← HK.out]; exact hi)
      have hcx' : wr.cell? (ad.add i) = some (.int .i64 x) := by rw [hbz.cell (by rw [blk_add]; exact hblk)]; exact hcx
      obtain ⟨v, hv, v1⟩ := and_nat x 65535 16 65536 (by decide) (by decide) (by decide)
      obtain ⟨u, hu, u1⟩ := and_nat (240 + (v : Int)) 127 7 128 (by decide) (by decide) (by decide)
      have hgb : bb ≤ g := (own_cap own).2.2
      have hgr : g ≠ r := by omega
      have hgs : g ≠ s := by omega
      clear hik hcx hx
      by_cases hin : i < nn
      · skip
        have HS := Lib.hid (snoc_in (x := (u : Int)) HT.out HO.out hin (by omega) (by omega))
        go_wp2_with fail
        refine (list_add r ((u : Int)) _ _ hRz (by rw [HY.out]; omega)).mono ?_
        rintro e w5 ⟨rfl, hR5, hg5⟩
        have hb5 := below_row hbz hrw hg5 hbz.size
        have hS5 := hSz.off hg5 hrs.symm
        have own5 := own_off own hg5 hgr
        have hsz5 : bb ≤ w5.heap.size := Nat.le_trans hsz hg5.size
        clear hcx' hRz hSz hbz hg5 own hsz
        go_wp2_with fail
        refine (ring_push s _ ((u : Int)) _ hS5).mono ?_
        rintro e w6 ⟨rfl, hS6, hg6⟩
        rw [last8_last] at hS6
        have hb6 := below_row hb5 hsw hg6 hb5.size
        have hR6 := hR5.off hg6 hrs
        have own6 := own_off own5 hg6 hgs
        have hsz6 : bb ≤ w6.heap.size := Nat.le_trans hsz5 hg6.size
        clear hR5 hS5 hb5 hg6 own5 hsz5
        go_wp2_with (at_builtin; refine wpList_app1 rfl (.tmp 56) (.tmp 58) 22 rfl bb 2 i0 (.int .i64 0) 8 Try.underlying22 hi0 hz0 hz1 hz2 rfl (.slice (some ⟨g, 0, none⟩) i cap) i (ints ys) rfl own6 (.int .i64 ((u : Int))) _ rfl _ rfl rfl (by omega) (by omega) hsz6 ?_; intro g' cap' w' own' hg' _ _)
        have hg2 : w6.grownBy w' (some g) := hg'
        have hb7 := hb6.grown hg' hb6.size (fun j hj => by simp [Value.ownBlock] at hj; omega)
        have hR7 := hR6.off hg2 (fun e => hgr e.symm)
        have hS7 := hS6.off hg2 (fun e => hgs e.symm)
        have hsz7 : bb ≤ w'.heap.size := Nat.le_trans hsz6 hg2.size
        have own7 : w'.ownsRow bb 2 1 (.slice (some ⟨g', 0, none⟩) (i + 1) cap') (i + 1) (ints (ys ++ [(u : Int)])) := by simpa using own'
        clear hR6 hS6 hb6 hg' hg2 own6 own' hsz6
        go_roundg (gk - 1)
        case measure => have := HIK.out; omega
        case rel => exact ⟨i + 1, g', cap', ys ++ [(u : Int)], by go_num, rfl, by have := HIK.out; omega, Lib.hid (by simp [HY.out]), Lib.hid HS.out.1, Lib.hid HS.out.2, hR7, hS7, own7, hb7, hsz7⟩
      · have hini : decide ((i : Int) < (nn : Int)) = false := by simp; omega
        clear hu
        have HS := Lib.hid (snoc_out (x := 240 + (v : Int)) HT.out HO.out (by omega) (by omega))
        go_wp2_with fail
        refine (list_add r (240 + (v : Int)) _ _ hRz (by rw [HY.out]; omega)).mono ?_
        rintro e w5 ⟨rfl, hR5, hg5⟩
        have hb5 := below_row hbz hrw hg5 hbz.size
        have hS5 := hSz.off hg5 hrs.symm
        have own5 := own_off own hg5 hgr
        have hsz5 : bb ≤ w5.heap.size := Nat.le_trans hsz hg5.size
        clear hcx' hRz hSz hbz hg5 own hsz
        go_wp2_with fail
        refine (ring_push s _ (240 + (v : Int)) _ hS5).mono ?_
        rintro e w6 ⟨rfl, hS6, hg6⟩
        rw [last8_last] at hS6
        have hb6 := below_row hb5 hsw hg6 hb5.size
        have hR6 := hR5.off hg6 hrs
        have own6 := own_off own5 hg6 hgs
        have hsz6 : bb ≤ w6.heap.size := Nat.le_trans hsz5 hg6.size
        clear hR5 hS5 hb5 hg6 own5 hsz5
        go_wp2_with (at_builtin; refine wpList_app1 rfl (.tmp 56) (.tmp 58) 22 rfl bb 2 i0 (.int .i64 0) 8 Try.underlying22 hi0 hz0 hz1 hz2 rfl (.slice (some ⟨g, 0, none⟩) i cap) i (ints ys) rfl own6 (.int .i64 (240 + (v : Int))) _ rfl _ rfl rfl (by omega) (by omega) hsz6 ?_; intro g' cap' w' own' hg' _ _)
        have hg2 : w6.grownBy w' (some g) := hg'
        have hb7 := hb6.grown hg' hb6.size (fun j hj => by simp [Value.ownBlock] at hj; omega)
        have hR7 := hR6.off hg2 (fun e => hgr e.symm)
        have hS7 := hS6.off hg2 (fun e => hgs e.symm)
        have hsz7 : bb ≤ w'.heap.size := Nat.le_trans hsz6 hg2.size
        have own7 : w'.ownsRow bb 2 1 (.slice (some ⟨g', 0, none⟩) (i + 1) cap') (i + 1) (ints (ys ++ [240 + (v : Int)])) := by simpa using own'
        clear hR6 hS6 hb6 hg' hg2 own6 own' hsz6
        go_roundg (gk - 1)
        case measure => have := HIK.out; omega
        case rel => exact ⟨i + 1, g', cap', ys ++ [240 + (v : Int)], by go_num, rfl, by have := HIK.out; omega, Lib.hid (by simp [HY.out]), Lib.hid HS.out.1, Lib.hid HS.out.2, hR7, hS7, own7, hb7, hsz7⟩
    · obtain rfl : k = i := by omega
      have HW := Lib.hid (far_win HT.out HO.out (by omega) (by omega))
      obtain ⟨n0, n1⟩ := next_range ys
      obtain ⟨n, hn'⟩ : ∃ n, nextI ys = n := ⟨_, rfl⟩
      rw [hn'] at n0 n1 HW
      have HN := Lib.hid hn'
      clear hik HIK hi hn' HT HO
      go_wp2_with fail
      refine (lawNext_any _ _ k cap ys _ HY.out.symm (own_cap own).1 (own_max own) (lies_own own)).mono ?_
      rintro e w5 ⟨rfl, j, rfl⟩
      rw [HN.out]
      have hR5 : Hl (wr.drewN j) r ys := hRz
      have hS5 : Rg (wr.drewN j) s (last8 ys) := hSz
      have hb5 := below_drewN hbz j
      generalize wr.drewN j = w5 at hR5 hS5 hb5 ⊢
      clear hRz hSz own hbz hsz
      go_wp2_with fail
      refine (of_any r s _ _ _ _ hR5 hS5).mono ?_
      rintro e w6 ⟨rfl, hb6⟩
      rw [HW.out]
      have hb7 := hb5.trans (hb6.mono hb5.size)
      have hb8 := fun (o : Obj) => hb7.alloc hb7.size o
      have p1 : preN n ≤ n := by unfold preN; omega
      have p2 : n ≤ endN n := by unfold endN; omega
      have p3 : preN n < endN n := by unfold preN endN; omega
      have p4 : preN n * 100 ≤ n * 85 := by unfold preN; omega
      have p5 : n * 115 ≤ endN n * 100 := by unfold endN; omega
      have p6 : 0 ≤ preN n := by unfold preN; omega
      have p7 : endN n ≤ 1264438371943 := by unfold endN; omega
      generalize preN n = p at p1 p3 p4 p6 ⊢
      generalize endN n = en at p2 p3 p5 p7 ⊢
      clear hR5 hS5 hb5 hb6 HW
      go_wp2_with fail
      go_ret
      refine ⟨ret_bool ?_, hb8 _⟩
      first | rfl | (simp; done) | (simp; omega)

theorem far_law (A : Option Addr) (k c : Nat) (xs : List Int) (near : Int) (w : World) (hk : xs.length = k) (hc : k ≤ c) (hm : c ≤ maxLen) (hA : Lies w w.heap.size A (ints xs)) :
    Calls Try.prog 6 #[.slice A k c, .int .i64 near] w fun e w' => e = .returned (.bool true) ∧ Below w.heap.size w w' := by
  simp only [maxLen] at hm
  exact far_walk A k c xs near w hk.symm hA (by omega)
end Go.Proofs.Ytocnaopjefhbjaa.W
