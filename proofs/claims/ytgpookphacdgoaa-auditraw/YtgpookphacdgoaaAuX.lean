/- Package audit's law: drop. -/
import Derived.Test.YtgpookphacdgoaaAuU
namespace Go.Proofs.Ytgpookphacdgoaa.W.U
open Go.RowKit Go.Maps Go.ChangeMaps Go.MapKept Go.Proofs.Ytgpookphacdgoaa.W

set_option maxRecDepth 100000 in
set_option maxHeartbeats 3200000 in
theorem l_drop {w : World} {q gs gm : Nat} {G : Option Nat} {W : Wd} {N : Nat} (h : Wl w q gs gm G W N) (hN : N ≤ 1048576) {id : Int} {k : Nat} {b : Bv} (ha : At W.L id k b) : Calls Try.prog 18 #[ptr q, .int .i64 (k : Int)] w fun e w' => e = .returned (.tuple #[]) ∧ ∃ G', Wl w' q gs gm G' { W with L := drp W.L id } N ∧ Only w w' (Ow q gs gm G) ∧ ∀ g, G' = some g → w.heap.size ≤ g := by
  obtain ⟨v, h1, h2⟩ := h.row
  have hk := ha.lt
  obtain ⟨n, hn⟩ : ∃ n, W.L.length = n := ⟨_, rfl⟩
  rw [hn] at h2 hk
  have hnN : n ≤ 1048576 := by have := h.gd.len; omega
  obtain ⟨g, cap, rfl, rfl, hrow⟩ := h2.some_ (by omega)
  obtain ⟨iB, hi1, hi2, hi3, hi4⟩ := info3b infoBo
  have hcap := hrow.cap_
  have c0 := cellB h1 0 _ rfl
  have hcz : ¬ (cap = 0) := by omega
  have hki0 : (0 : Int) ≤ (k : Int) := by omega
  have hkic : (k : Int) ≤ (cap : Int) := by omega
  have hk1 : (0 : Int) ≤ (k : Int) + 1 := by omega
  have hk2 : (k : Int) + 1 ≤ (n : Int) := by omega
  have hw1 : IntKind.i64.wrap ((k : Int) + 1) = (k : Int) + 1 := wr_small (by omega) (by omega)
  have hlim : n ≤ maxLen := by
    have : (1073741824 : Nat) < maxLen := by decide
    omega
  obtain ⟨E0, hE0⟩ : ∃ Z, Obj.cells #[] 57 = Z := ⟨_, rfl⟩
  have oE : Only w (w.alloc E0).drew (fun _ => False) := ((Only.refl w _).alloc E0).drewN 1
  have rowE : Row brow 5 57 (w.alloc E0).drew w.heap.size 0 0 (boT W.L) := by
    rw [← hE0]
    exact ⟨[], heap_alloc_new w (.cells #[] 57), rfl, Nat.le_refl _, by decide, fun j hj => by omega⟩
  have rowG := hrow.kept oE (fun t => t)
  obtain ⟨g2, cap2, w2, hrun1, row2, on2, hg2⟩ := run_items (P := Try.prog) encB 45 45 iB _ 32 Try.underlying45 hi1 hi2 hi3 hi4 rfl w.heap.size 0 0 _ rowE g 0 k cap (boT W.L) (fun j hj c u hu => rowG.cell (by omega) hu (by omega)) (by omega) (by omega)
  have hgw : g < w.heap.size := hrow.lt
  have hqw : q < w.heap.size := lt_of_row h1
  have rowG2 := rowG.kept on2 (by omega)
  have hq2 : w2.heap[q]? = some (.cells #[.slice (some ⟨g, 0, none⟩) n cap, .map (some gs), .map (some gm), .int .i64 W.nx] 47 (0, 0)) := on2.blk (by omega) (oE.blk (fun t => t) h1)
  have c2 := cellB hq2 0 _ rfl
  have cE : (w.alloc E0).cell? ⟨q, 0, none⟩ = some (.slice (some ⟨g, 0, none⟩) n cap) := oE.cell (fun t => t) c0
  have cE2 : (w.alloc E0).drew.cell? ⟨q, 0, none⟩ = some (.slice (some ⟨g, 0, none⟩) n cap) := cE
  have fz := frozen_of_row w2 q 0 _ _ hq2
  simp only [Nat.zero_add] at hrun1 row2
  simp [go_sem] at hrun1
  have hb2 : Below w.heap.size w w2 := ((Below.refl _ w).alloc (Nat.le_refl _) E0 |> fun t => below_drewN t 1).trans (on2.below (fun j t => by omega) (by have := oE.size; omega))
  have hgg2 : w.heap.size ≤ g2 := by
    rcases hg2 with t | t
    · omega
    · have := oE.size; omega
  have HH := Lib.hid h
  have HA := Lib.hid ha
  have HN := Lib.hid hn
  clear h ha hn h2 hrow rowE rowG on2 hg2 h1
  by_cases hcc : cap = k + 1
  · obtain rfl : n = k + 1 := by omega
    subst hcc
    have hkc1 : (k : Int) ≤ (k : Int) + 1 := by omega
    obtain ⟨g3, cap3, w3, hrun2, row3, on3, hg3⟩ := run_items (P := Try.prog) encB 45 45 iB _ 32 Try.underlying45 hi1 hi2 hi3 hi4 rfl g2 k cap2 _ row2 g 0 0 0 (fun j => boT W.L (k + 1 + j)) (fun j hj c u hu => by omega) (by omega) (by omega)
    simp [go_sem] at hrun2
    have hq3 := on3.blk (by omega) hq2
    have c3 := cellB hq3 0 _ rfl
    have fz3 := frozen_of_row w3 q 0 _ _ hq3
    have HQ3 := Lib.hid hq3
    have HR3 := Lib.hid row3
    have hb3 : Below w.heap.size w w3 := hb2.trans (on3.below (fun j t => by omega) hb2.size)
    have HB3 := Lib.hid hb3
    have HG3 : Hid (w.heap.size ≤ g3) := Lib.hid (by have := hb2.size; omega)
    clear hq3 row3 on3 hg3 hb3 row2 hb2 hgg2 rowG2 hq2
    go_enter Try.func18, Try.ntmps18
    go_region
    all_goals go_end0
    all_goals exact ⟨rfl, drop_done HH.out HA.out HN.out HB3.out HQ3.out HG3.out (by omega) HR3.out (fun j hj => by simp only [Nat.not_lt_zero, if_false, Nat.sub_zero]) _ rfl⟩
  · obtain ⟨g3, cap3, w3, hrun2, row3, on3, hg3⟩ := run_items (P := Try.prog) encB 45 45 iB _ 32 Try.underlying45 hi1 hi2 hi3 hi4 rfl g2 k cap2 _ row2 g ((k + 1) * 5) (n - (k + 1)) (cap - (k + 1)) (fun j => boT W.L (k + 1 + j)) (fun j hj c u hu => rowG2.cell (j := k + 1 + j) (by omega) hu (by omega)) (by omega) (by omega)
    simp [go_sem] at hrun2
    have hq3 := on3.blk (by omega) hq2
    have c3 := cellB hq3 0 _ rfl
    have fz3 := frozen_of_row w3 q 0 _ _ hq3
    have HQ3 := Lib.hid hq3
    have HR3 := Lib.hid row3
    have hb3 : Below w.heap.size w w3 := hb2.trans (on3.below (fun j t => by omega) hb2.size)
    have HB3 := Lib.hid hb3
    have HG3 : Hid (w.heap.size ≤ g3) := Lib.hid (by have := hb2.size; omega)
    clear hq3 row3 on3 hg3 hb3 row2 hb2 hgg2 rowG2 hq2
    go_enter Try.func18, Try.ntmps18
    go_region
    all_goals go_end0
    all_goals exact ⟨rfl, drop_done HH.out HA.out HN.out HB3.out HQ3.out HG3.out (by omega) HR3.out (fun j hj => by simp only [Nat.not_lt_zero, if_false, Nat.sub_zero]) _ rfl⟩
end Go.Proofs.Ytgpookphacdgoaa.W.U
