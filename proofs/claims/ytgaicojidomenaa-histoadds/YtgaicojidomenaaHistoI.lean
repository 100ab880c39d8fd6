/- The law HistoTurns: its walk. -/
import Derived.Test.YtgaicojidomenaaHistoG
namespace Go.Proofs.Ytgaicojidomenaa.W
open Go.RowKit

/-- The idle times from a place on, round. -/
def rot (xs : List Int) (s i : Nat) : List Int := (List.range i).map (fun j => xs.getD ((j + s) % xs.length) 0)
theorem rot_len (xs : List Int) (s i : Nat) : (rot xs s i).length = i := by simp [rot]
theorem rot_succ {xs : List Int} {s i : Nat} {y : Int} (h : xs[(i + s) % xs.length]? = some y) : rot xs s (i + 1) = rot xs s i ++ [y] := by
  unfold rot
  rw [List.range_succ, List.map_append]
  simp [List.getD, h]
theorem rot_all (xs : List Int) (s : Nat) : rot xs s xs.length = xs.drop (s % xs.length) ++ xs.take (s % xs.length) := by
  apply List.ext_getElem?
  intro j
  rcases Nat.lt_or_ge j xs.length with h | h
  · have ht : s % xs.length < xs.length := Nat.mod_lt _ (by omega)
    have e : (j + s) % xs.length = if j + s % xs.length < xs.length then j + s % xs.length else j + s % xs.length - xs.length := by
      rw [Nat.add_mod, Nat.mod_eq_of_lt h]
      split
      · exact Nat.mod_eq_of_lt (by assumption)
      · rw [Nat.mod_eq_sub_mod (by omega), Nat.mod_eq_of_lt (by omega)]
    generalize s % xs.length = t at e ht ⊢
    have hl : (rot xs s xs.length)[j]? = some (xs.getD ((j + s) % xs.length) 0) := by
      unfold rot; rw [List.getElem?_map, List.getElem?_range h]; rfl
    rw [hl, e]
    split
    · rename_i q
      rw [List.getElem?_append_left (by simp; omega), List.getElem?_drop]
      rw [List.getD, Nat.add_comm j t, List.getElem?_eq_getElem (by omega)]; rfl
    · rename_i q
      rw [List.getElem?_append_right (by simp; omega), List.getElem?_take, List.length_drop, if_pos (by omega)]
      rw [List.getD, show j - (xs.length - t) = j + t - xs.length by omega, List.getElem?_eq_getElem (by omega)]; rfl
  · rw [List.getElem?_eq_none (by rw [rot_len]; exact h), List.getElem?_eq_none (by simp; omega)]
theorem rot_perm (xs : List Int) (s : Nat) : (rot xs s xs.length).Perm xs := by
  rw [rot_all]
  exact List.perm_append_comm.trans (by rw [List.take_append_drop])
theorem rot_cnt (xs : List Int) (s : Nat) : cnt (rot xs s xs.length) = cnt xs := by
  funext j; exact (rot_perm xs s).count_eq _
theorem rot_cntO (xs : List Int) (s : Nat) : cntO (rot xs s xs.length) = cntO xs := (rot_perm xs s).countP_eq _
theorem neg_same {w : World} {r o : Nat} {F : Nat → Nat} {x : Int} (h : Hs w r (aF F x) (aO o x)) (hx : x < 0) : Hs w r F o := by
  have ho : aO o x = o := by unfold aO; rw [if_neg (by omega)]; rfl
  rw [ho] at h
  exact h.ext (fun j _ => by unfold aF; rw [if_neg (by omega), Nat.add_zero])
theorem list_neg (r : Nat) (x : Int) (xs : List Int) (w : World) (h : Hl w r xs) (hx : x < 0) :
    Calls Try.prog 16 #[.pointer (some ⟨r, 0, none⟩), .int .i64 x] w fun e w' => e = .returned (.tuple #[]) ∧ Hl w' r xs ∧ w.grownBy w' (some r) := by
  refine (add_neg r _ x _ w h hx).mono ?_
  rintro e w' ⟨h1, h2, h3⟩
  exact ⟨h1, neg_same h2 hx, h3⟩
theorem own_bins {w : World} {base : Nat} {e : TypeId} {g n cap : Nat} {F : Nat → Nat} (h : w.ownsRow base e 1 (.slice (some ⟨g, 0, none⟩) n cap) n (bins F)) {j : Nat} (hj : j < 240) : w.cell? ⟨g, j, none⟩ = some (.int .i64 (F j : Int)) := by
  have := h.cells (g := g) rfl j _ (bins_at F hj)
  rwa [add_lit0] at this

set_option maxRecDepth 100000 in
set_option maxHeartbeats 3200000 in
theorem turns_walk (A : Option Addr) (k c : Nat) (xs : List Int) (at_ : Int) (w : World) (hk : k = xs.length) (hA : Lies w w.heap.size A (ints xs)) (hm : k ≤ 9223372036854775807) :
    Calls Try.prog 6 #[.slice A k c, .int .i64 at_] w fun e w' => e = .returned (.bool true) ∧ Below w.heap.size w w' := by
  have HK := Lib.hid hk
  clear hk
  obtain ⟨sh, hsh, hsh1⟩ := and_nat at_ 65535 16 65536 (by decide) (by decide) (by decide)
  by_cases h200 : 200 < k
  · go_enter Try.func6, Try.ntmps6
    go_wp2_with fail
    refine (histo_head _).mono ?_
    rintro e w1 ⟨rfl, hb1⟩
    go_wp2_with fail
    go_ret
    exact ⟨rfl, hb1⟩
  clear hm
  go_enter Try.func6, Try.ntmps6
  go_wp2_with fail
  refine (histo_head _).mono ?_
  rintro e w1 ⟨rfl, hb1⟩
  go_wp2_with fail
  refine (list_new _).mono ?_
  rintro e w2 ⟨rfl, hR2, hb2⟩
  obtain ⟨r, hr⟩ : ∃ r, w1.heap.size = r := ⟨_, rfl⟩
  rw [hr] at hR2 ⊢
  go_wp2_with fail
  refine (list_new _).mono ?_
  rintro e w3 ⟨rfl, hS3, hb3⟩
  obtain ⟨s, hs⟩ : ∃ s, w2.heap.size = s := ⟨_, rfl⟩
  rw [hs] at hS3 ⊢
  obtain ⟨hR3, hrw, hsw, hrs, hb4⟩ := new_twoH hb1 hr hR2 hb2 hs hb3
  clear hb1 hb2 hb3 hR2 hr hs
  go_wp2_with fail
  go_loopg [23] k (fun gk vi wr => ∃ i : Nat, vi = .int .i64 (i : Int) ∧ i + gk = k ∧ Hl wr r (xs.take i) ∧ Hl wr s (rot xs sh i) ∧ Below w.heap.size w wr)
  case atStart => exact ⟨0, rfl, by omega, hR3, hS3, hb4⟩
  case round =>
    obtain ⟨i, rfl, hik, hRz, hSz, hbz⟩ := hrel
    have HIK := Lib.hid hik
    clear hR3 hS3 hb4
    by_cases hi : i < k
    · obtain ⟨ad, x, rfl, hblk, hx, hcx⟩ := hA.int (show i < xs.length by rw [← HK.out]; exact hi)
      have hcx' : wr.cell? (ad.add i) = some (.int .i64 x) := by rw [hbz.cell (by rw [blk_add]; exact hblk)]; exact hcx
      obtain ⟨n, hn⟩ : ∃ n, (i + sh) % k = n := ⟨_, rfl⟩
      have hnk : n < k := by rw [← hn]; exact Nat.mod_lt _ (by omega)
      obtain ⟨ad2, y, e2, hblk2, hy, hcy⟩ := hA.int (show n < xs.length by rw [← HK.out]; exact hnk)
      injection e2 with e2
      subst e2
      have hrem : ((i : Int) + (sh : Int)).tmod (k : Int) = (n : Int) := by rw [← hn]; exact Int.ofNat_tmod (i + sh) k
      have hrem2 : ((i : Int) + (sh : Int)) % (k : Int) = (n : Int) := by rw [← hn]; rfl
      have HX := Lib.hid hx
      have HY : Hid (xs[(i + sh) % xs.length]? = some y) := Lib.hid (by rw [← HK.out, hn]; exact hy)
      have HCX := Lib.hid hcx
      have HCY := Lib.hid hcy
      obtain ⟨v, hv, hv1⟩ := and_nat x 255 8 256 (by decide) (by decide) (by decide)
      clear hik hcx hx hy hcy hn
      go_wp2_with fail
      refine (list_add r x _ _ hRz (by simp; omega)).mono ?_
      rintro e w4 ⟨rfl, hR4, hg4⟩
      rw [← take_snoc HX.out] at hR4
      have hb5 := below_row hbz hrw hg4 hbz.size
      have hS4 := hSz.off hg4 hrs.symm
      have hcy' : w4.cell? (ad.add n) = some (.int .i64 y) := by rw [hb5.cell (by rw [blk_add]; exact hblk)]; exact HCY.out
      clear hcx' hSz hRz hbz hg4
      go_wp2_with fail
      refine (list_add s y _ _ hS4 (by rw [rot_len]; omega)).mono ?_
      rintro e w5 ⟨rfl, hS5, hg5⟩
      rw [← rot_succ HY.out] at hS5
      have hb6 := below_row hb5 hsw hg5 hb5.size
      have hR5 := hR4.off hg5 hrs
      have hcx6 : w5.cell? (ad.add i) = some (.int .i64 x) := by rw [hb6.cell (by rw [blk_add]; exact hblk)]; exact HCX.out
      clear hcy' hS4 hR4 hb5 hg5 hrem hrem2
      go_wp2_with fail
      refine (list_neg s (-1 - (v : Int)) _ _ hS5 (by omega)).mono ?_
      rintro e w6 ⟨rfl, hS6, hg6⟩
      have hb7 := below_row hb6 hsw hg6 hb6.size
      have hR6 := hR5.off hg6 hrs
      clear hcx6 hS5 hR5 hb6 hg6
      go_wp2_with fail
      go_roundg (gk - 1)
      case measure => have := HIK.out; omega
      case rel => exact ⟨i + 1, by go_num, by have := HIK.out; omega, hR6, hS6, hb7⟩
    · obtain rfl : k = i := by omega
      have hR : Hs wr r (cnt xs) (cntO xs) := by rw [List.take_of_length_le (by rw [← HK.out]; omega)] at hRz; exact hRz
      have hS : Hs wr s (cnt xs) (cntO xs) := by rw [HK.out] at hSz; have h := hSz; unfold Hl at h; rw [rot_cnt, rot_cntO] at h; exact h
      clear hik HIK hRz hSz
      obtain ⟨F, hF⟩ : ∃ F, cnt xs = F := ⟨_, rfl⟩
      obtain ⟨o, ho⟩ : ∃ o, cntO xs = o := ⟨_, rfl⟩
      rw [hF, ho] at hR hS
      clear hF ho
      go_wp2_with fail
      refine (counts_any r _ _ _ hR).mono ?_
      rintro e w4 ⟨g1, rfl, own1, hb4⟩
      have hR4 := hR.keep hb4 hR.lt
      have hS4 := hS.keep hb4 hS.lt
      have hb5 := hbz.trans (hb4.mono hbz.size)
      have L1 : ∀ j, j < 240 → w4.cell? ⟨g1, j, none⟩ = some (.int .i64 (F j : Int)) := fun j hj => own_bins own1 hj
      have g1lt := (own_cap own1).2.1
      clear own1 hR hS hb4 hbz
      go_wp2_with fail
      refine (counts_any s _ _ _ hS4).mono ?_
      rintro e w5 ⟨g2, rfl, own2, hb4⟩
      have hR5 := hR4.keep hb4 hR4.lt
      have hS5 := hS4.keep hb4 hS4.lt
      have hb6 := hb5.trans (hb4.mono hb5.size)
      have M1 : Hid (∀ j, j < 240 → w5.cell? ⟨g1, j, none⟩ = some (.int .i64 (F j : Int))) := Lib.hid fun j hj => by rw [hb4.cell g1lt]; exact L1 j hj
      have M2 : Hid (∀ j, j < 240 → w5.cell? ⟨g2, j, none⟩ = some (.int .i64 (F j : Int))) := Lib.hid fun j hj => own_bins own2 hj
      obtain ⟨T, hT⟩ : ∃ T, tot F = T := ⟨_, rfl⟩
      have HT := Lib.hid hT
      clear own2 L1 g1lt hR4 hS4 hb4 hb5 hT
      go_wp2_with fail
      refine (histo_over r _ _ _ hR5).mono ?_
      rintro e w6 ⟨rfl, rfl⟩
      go_wp2_with fail
      refine (histo_over s _ _ _ hS5).mono ?_
      rintro e w6 ⟨rfl, rfl⟩
      go_wp2_with fail
      refine (histo_in r _ _ _ hR5).mono ?_
      rintro e w6 ⟨rfl, rfl⟩
      rw [HT.out]
      go_wp2_with fail
      refine (histo_in s _ _ _ hS5).mono ?_
      rintro e w6 ⟨rfl, rfl⟩
      rw [HT.out]
      clear hR5 hS5
      go_wp2_with fail
      go_loopg [77] 240 (fun gk vi wr => ∃ j : Nat, vi = .int .i64 (j : Int) ∧ j + gk = 240 ∧ ∃ q, wr = w5.drewN q)
      case atStart => exact ⟨0, rfl, rfl, 0, rfl⟩
      case round =>
        obtain ⟨j, rfl, hjk, q, hq⟩ := hrel
        have HQ := Lib.hid hq
        have HJK := Lib.hid hjk
        by_cases hj : j < 240
        · obtain ⟨f, hf⟩ : ∃ f, F j = f := ⟨_, rfl⟩
          have a1 : wr.cell? ⟨g1, j, none⟩ = some (.int .i64 (f : Int)) := by rw [hq, ← hf]; exact M1.out j hj
          have a2 : wr.cell? ⟨g2, j, none⟩ = some (.int .i64 (f : Int)) := by rw [hq, ← hf]; exact M2.out j hj
          clear hq hjk hf
          have hjm : (j : Int) < 240 := by omega
          go_wp2_with fail
          go_quiet (fail)
          go_wp2_with fail
          go_roundg (gk - 1)
          case measure => have := HJK.out; omega
          case rel => exact ⟨j + 1, by go_num, by have := HJK.out; omega, _, by rw [HQ.out]; exact drewN_two _ _ _⟩
        · have hbe : Below w.heap.size w wr := by rw [hq]; exact below_drewN hb6 q
          clear hjk hq
          go_wp2_with fail
          go_ret
          exact ⟨rfl, hbe⟩

theorem turns_law (A : Option Addr) (k c : Nat) (xs : List Int) (at_ : Int) (w : World) (hk : xs.length = k) (hc : k ≤ c) (hm : c ≤ maxLen) (hA : Lies w w.heap.size A (ints xs)) :
    Calls Try.prog 6 #[.slice A k c, .int .i64 at_] w fun e w' => e = .returned (.bool true) ∧ Below w.heap.size w w' := by
  simp only [maxLen] at hm
  exact turns_walk A k c xs at_ w hk.symm hA (by omega)
end Go.Proofs.Ytgaicojidomenaa.W
