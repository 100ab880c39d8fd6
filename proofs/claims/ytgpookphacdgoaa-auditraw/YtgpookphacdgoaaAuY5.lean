/- Package audit's law: a step, by the event's kind. Made by mk_auy.py. -/
import Derived.Test.YtgpookphacdgoaaAuYh
import Derived.Deep.LoopGhost
namespace Go.Proofs.Ytgpookphacdgoaa.W.U
open Go.RowKit Go.Maps Go.ChangeMaps Go.MapKept Go.Proofs.Ytgpookphacdgoaa.W

set_option maxRecDepth 100000 in
set_option maxHeartbeats 3200000 in
theorem l_stepK5 {w : World} {q gs gm : Nat} {G : Option Nat} {W : Wd} {N : Nat} (h : Wl w q gs gm G W N) {e1 e2 e3 e4 e5 e6 e7 e8 e9 a1 a2 a3 : Int} {sA : Option Addr} {sl sc : Nat} {B : Nat} {cs : List Cmd} (hcs : cs.length = sl) (hcl : CL w B sA cs) (hcw : ∀ c ∈ cs, cwf c) (hB : B ≤ w.heap.size ∧ ∀ j, Ow q gs gm G j → B ≤ j) (hN : N + 2 * sl + 2 < 1048570) (hr : right ⟨5, e1, e2, e3, e4, e5, e6, e7, e8, e9⟩) (ha : okA ⟨0, a1, a2, a3⟩) : Calls Try.prog 10 #[ptr q, .agg #[.int .i64 5, .int .i64 e1, .int .i64 e2, .int .i64 e3, .int .i64 e4, .int .i64 e5, .int .i64 e6, .int .i64 e7, .int .i64 e8, .int .i64 e9, .int .i64 0, .int .i64 a1, .int .i64 a2, .int .i64 a3, .slice sA sl sc]] w (Lr w q gs gm G (N + 2 * sl + 2) (stp W (⟨5, e1, e2, e3, e4, e5, e6, e7, e8, e9⟩, ⟨0, a1, a2, a3⟩, cs))) := by
  have HR := Lib.hid hr
  have HA := Lib.hid ha
  have HCS := Lib.hid hcs
  have HCL := Lib.hid hcl
  have HCW := Lib.hid hcw
  have HBS := Lib.hid hB
  have hsl : sl ≤ 1048570 := by omega
  clear hcs hcl hcw hB
  go_enter Try.func10, Try.ntmps10
  go_wp2_with fail
  have r0 := heap_alloc_new w (.cells #[.int .i64 5, .int .i64 e1, .int .i64 e2, .int .i64 e3, .int .i64 e4, .int .i64 e5, .int .i64 e6, .int .i64 e7, .int .i64 e8, .int .i64 e9, .int .i64 0, .int .i64 a1, .int .i64 a2, .int .i64 a3, .slice sA sl sc] 34)
  have r1 := heap_alloc_new (w.alloc (.cells #[.int .i64 5, .int .i64 e1, .int .i64 e2, .int .i64 e3, .int .i64 e4, .int .i64 e5, .int .i64 e6, .int .i64 e7, .int .i64 e8, .int .i64 e9, .int .i64 0, .int .i64 a1, .int .i64 a2, .int .i64 a3, .slice sA sl sc] 34)) (.cells #[.int .i64 5, .int .i64 e1, .int .i64 e2, .int .i64 e3, .int .i64 e4, .int .i64 e5, .int .i64 e6, .int .i64 e7, .int .i64 e8, .int .i64 e9] 26)
  have r2 := heap_alloc_new ((w.alloc (.cells #[.int .i64 5, .int .i64 e1, .int .i64 e2, .int .i64 e3, .int .i64 e4, .int .i64 e5, .int .i64 e6, .int .i64 e7, .int .i64 e8, .int .i64 e9, .int .i64 0, .int .i64 a1, .int .i64 a2, .int .i64 a3, .slice sA sl sc] 34)).alloc (.cells #[.int .i64 5, .int .i64 e1, .int .i64 e2, .int .i64 e3, .int .i64 e4, .int .i64 e5, .int .i64 e6, .int .i64 e7, .int .i64 e8, .int .i64 e9] 26)) (.cells #[.int .i64 0, .int .i64 a1, .int .i64 a2, .int .i64 a3] 31)
  have k1 := (Only.refl (w.alloc (.cells #[.int .i64 5, .int .i64 e1, .int .i64 e2, .int .i64 e3, .int .i64 e4, .int .i64 e5, .int .i64 e6, .int .i64 e7, .int .i64 e8, .int .i64 e9, .int .i64 0, .int .i64 a1, .int .i64 a2, .int .i64 a3, .slice sA sl sc] 34)) (fun _ => False)).alloc (.cells #[.int .i64 5, .int .i64 e1, .int .i64 e2, .int .i64 e3, .int .i64 e4, .int .i64 e5, .int .i64 e6, .int .i64 e7, .int .i64 e8, .int .i64 e9] 26)
  have k2 := (Only.refl ((w.alloc (.cells #[.int .i64 5, .int .i64 e1, .int .i64 e2, .int .i64 e3, .int .i64 e4, .int .i64 e5, .int .i64 e6, .int .i64 e7, .int .i64 e8, .int .i64 e9, .int .i64 0, .int .i64 a1, .int .i64 a2, .int .i64 a3, .slice sA sl sc] 34)).alloc (.cells #[.int .i64 5, .int .i64 e1, .int .i64 e2, .int .i64 e3, .int .i64 e4, .int .i64 e5, .int .i64 e6, .int .i64 e7, .int .i64 e8, .int .i64 e9] 26)) (fun _ => False)).alloc (.cells #[.int .i64 0, .int .i64 a1, .int .i64 a2, .int .i64 a3] 31)
  have r0' := k2.blk (fun t => t) (k1.blk (fun t => t) r0)
  have r1' := k2.blk (fun t => t) r1
  rw [World.size_alloc] at r1'
  rw [World.size_alloc, World.size_alloc] at r2
  have bb := ((((Below.refl w.heap.size w).alloc (Nat.le_refl _) (.cells #[.int .i64 5, .int .i64 e1, .int .i64 e2, .int .i64 e3, .int .i64 e4, .int .i64 e5, .int .i64 e6, .int .i64 e7, .int .i64 e8, .int .i64 e9, .int .i64 0, .int .i64 a1, .int .i64 a2, .int .i64 a3, .slice sA sl sc] 34))).alloc (by rw [World.size_alloc]; omega) (.cells #[.int .i64 5, .int .i64 e1, .int .i64 e2, .int .i64 e3, .int .i64 e4, .int .i64 e5, .int .i64 e6, .int .i64 e7, .int .i64 e8, .int .i64 e9] 26)).alloc (by rw [World.size_alloc, World.size_alloc]; omega) (.cells #[.int .i64 0, .int .i64 a1, .int .i64 a2, .int .i64 a3] 31)
  have h1 := h.below bb
  have O1 := Lib.hid (Only.of_below (S := Ow q gs gm G) bb)
  have hnn : ∀ j, Ow q gs gm G j → j < w.heap.size := fun j t => h.lt t
  obtain ⟨Hs, hHs⟩ : ∃ z, w.heap.size = z := ⟨_, rfl⟩
  have HLE : Hid (w.heap.size ≤ Hs) := Lib.hid (by omega)
  rw [hHs] at r0' r1' r2 hnn
  try rw [hHs]
  have HNN := Lib.hid hnn
  clear hHs bb r0 r1 k1 k2 h hnn
  generalize ((w.alloc (.cells #[.int .i64 5, .int .i64 e1, .int .i64 e2, .int .i64 e3, .int .i64 e4, .int .i64 e5, .int .i64 e6, .int .i64 e7, .int .i64 e8, .int .i64 e9, .int .i64 0, .int .i64 a1, .int .i64 a2, .int .i64 a3, .slice sA sl sc] 34)).alloc (.cells #[.int .i64 5, .int .i64 e1, .int .i64 e2, .int .i64 e3, .int .i64 e4, .int .i64 e5, .int .i64 e6, .int .i64 e7, .int .i64 e8, .int .i64 e9] 26)).alloc (.cells #[.int .i64 0, .int .i64 a1, .int .i64 a2, .int .i64 a3] 31) = w1 at r0' r1' r2 h1 O1 ⊢
  have RS1 := Lib.hid r0'
  have RE1 := Lib.hid r1'
  have RA1 := Lib.hid r2
  clear r0' r1' r2
  refine (lright_any 5 e1 e2 e3 e4 e5 e6 e7 e8 e9 w1 true ⟨fun _ => HR.out, fun _ => rfl⟩).mono ?_
  rintro r1 w2 ⟨rfl, bx⟩
  have h2 := h1.below bx
  have O2 : Hid (Only w w2 (Ow q gs gm G)) := Lib.hid (O1.out.tr (Only.of_below bx))
  have RS2 : Hid (w2.heap[Hs]? = some (.cells #[.int .i64 5, .int .i64 e1, .int .i64 e2, .int .i64 e3, .int .i64 e4, .int .i64 e5, .int .i64 e6, .int .i64 e7, .int .i64 e8, .int .i64 e9, .int .i64 0, .int .i64 a1, .int .i64 a2, .int .i64 a3, .slice sA sl sc] 34 (0, 0))) := Lib.hid (by rw [bx.block _ (lt_of_row RS1.out)]; exact RS1.out)
  have RE2 : Hid (w2.heap[(Hs + 1)]? = some (.cells #[.int .i64 5, .int .i64 e1, .int .i64 e2, .int .i64 e3, .int .i64 e4, .int .i64 e5, .int .i64 e6, .int .i64 e7, .int .i64 e8, .int .i64 e9] 26 (0, 0))) := Lib.hid (by rw [bx.block _ (lt_of_row RE1.out)]; exact RE1.out)
  have RA2 : Hid (w2.heap[(Hs + 1 + 1)]? = some (.cells #[.int .i64 0, .int .i64 a1, .int .i64 a2, .int .i64 a3] 31 (0, 0))) := Lib.hid (by rw [bx.block _ (lt_of_row RA1.out)]; exact RA1.out)
  clear h1 O1 RS1 RE1 RA1 bx
  have zA0 := (cellB RA2.out 0 _ rfl : w2.cell? ⟨(Hs + 1 + 1), 0, none⟩ = some (.int .i64 0))
  have zA1 := (cellB RA2.out 1 _ rfl : w2.cell? ⟨(Hs + 1 + 1), 1, none⟩ = some (.int .i64 a1))
  have zA2 := (cellB RA2.out 2 _ rfl : w2.cell? ⟨(Hs + 1 + 1), 2, none⟩ = some (.int .i64 a2))
  have zA3 := (cellB RA2.out 3 _ rfl : w2.cell? ⟨(Hs + 1 + 1), 3, none⟩ = some (.int .i64 a3))
  go_wp2_with fail
  clear zA0 zA1 zA2 zA3
  refine (RA.right_any 0 a1 a2 a3 w2 true ⟨fun _ => HA.out, fun _ => rfl⟩).mono ?_
  rintro r2 w3 ⟨rfl, bx⟩
  have h3 := h2.below bx
  have O3 : Hid (Only w w3 (Ow q gs gm G)) := Lib.hid (O2.out.tr (Only.of_below bx))
  have RS3 : Hid (w3.heap[Hs]? = some (.cells #[.int .i64 5, .int .i64 e1, .int .i64 e2, .int .i64 e3, .int .i64 e4, .int .i64 e5, .int .i64 e6, .int .i64 e7, .int .i64 e8, .int .i64 e9, .int .i64 0, .int .i64 a1, .int .i64 a2, .int .i64 a3, .slice sA sl sc] 34 (0, 0))) := Lib.hid (by rw [bx.block _ (lt_of_row RS2.out)]; exact RS2.out)
  have RE3 : Hid (w3.heap[(Hs + 1)]? = some (.cells #[.int .i64 5, .int .i64 e1, .int .i64 e2, .int .i64 e3, .int .i64 e4, .int .i64 e5, .int .i64 e6, .int .i64 e7, .int .i64 e8, .int .i64 e9] 26 (0, 0))) := Lib.hid (by rw [bx.block _ (lt_of_row RE2.out)]; exact RE2.out)
  have RA3 : Hid (w3.heap[(Hs + 1 + 1)]? = some (.cells #[.int .i64 0, .int .i64 a1, .int .i64 a2, .int .i64 a3] 31 (0, 0))) := Lib.hid (by rw [bx.block _ (lt_of_row RA2.out)]; exact RA2.out)
  clear h2 O2 RS2 RE2 RA2 bx
  have zA0 := (cellB RA3.out 0 _ rfl : w3.cell? ⟨(Hs + 1 + 1), 0, none⟩ = some (.int .i64 0))
  have zE0 := (cellB RE3.out 0 _ rfl : w3.cell? ⟨(Hs + 1), 0, none⟩ = some (.int .i64 5))
  have zE1 := (cellB RE3.out 1 _ rfl : w3.cell? ⟨(Hs + 1), 1, none⟩ = some (.int .i64 e1))
  go_wp2_with fail
  refine (l_find h3 (by omega) e1).mono ?_
  rintro r3 w4 ⟨r, rfl, hfd, bx⟩
  clear zA0 zE0 zE1
  have h4 := h3.below bx
  have O4 : Hid (Only w w4 (Ow q gs gm G)) := Lib.hid (O3.out.tr (Only.of_below bx))
  have RS4 : Hid (w4.heap[Hs]? = some (.cells #[.int .i64 5, .int .i64 e1, .int .i64 e2, .int .i64 e3, .int .i64 e4, .int .i64 e5, .int .i64 e6, .int .i64 e7, .int .i64 e8, .int .i64 e9, .int .i64 0, .int .i64 a1, .int .i64 a2, .int .i64 a3, .slice sA sl sc] 34 (0, 0))) := Lib.hid (by rw [bx.block _ (lt_of_row RS3.out)]; exact RS3.out)
  have RE4 : Hid (w4.heap[(Hs + 1)]? = some (.cells #[.int .i64 5, .int .i64 e1, .int .i64 e2, .int .i64 e3, .int .i64 e4, .int .i64 e5, .int .i64 e6, .int .i64 e7, .int .i64 e8, .int .i64 e9] 26 (0, 0))) := Lib.hid (by rw [bx.block _ (lt_of_row RE3.out)]; exact RE3.out)
  have RA4 : Hid (w4.heap[(Hs + 1 + 1)]? = some (.cells #[.int .i64 0, .int .i64 a1, .int .i64 a2, .int .i64 a3] 31 (0, 0))) := Lib.hid (by rw [bx.block _ (lt_of_row RA3.out)]; exact RA3.out)
  clear h3 O3 RS3 RE3 RA3 bx
  clear hfd
  have hbd := right_bd HR.out
  dsimp only at hbd
  have wfi : (KL e1).wf = true := wfK (by omega) (by omega)
  have k6 : (5 : Int) ≠ 6 := by decide
  have HGD : Hid (Gd ({ W with L := W.L.filter (fun b => b.ho != e1), sz := upI W.sz e1 0 } : Wd) (N + 1)) := Lib.hid ((h4.gd.hap HR.out (show hap W ⟨5, e1, e2, e3, e4, e5, e6, e7, e8, e9⟩ = some ({ W with L := W.L.filter (fun b => b.ho != e1), sz := upI W.sz e1 0 } : Wd) from by simp [hap])).up (by omega))
  have zE0 := (cellB RE4.out 0 _ rfl : w4.cell? ⟨(Hs + 1), 0, none⟩ = some (.int .i64 5))
  have qv := h4.row
  obtain ⟨v, hv1, hv2⟩ := qv
  obtain ⟨A, cap, rfl, hcap⟩ := hv2.slice
  obtain ⟨n, hn⟩ : ∃ n, W.L.length = n := ⟨_, rfl⟩
  rw [hn] at hv2 hv1
  have hnN : n ≤ 1048576 := by have := h4.gd.len; omega
  have q0 := cellB hv1 0 _ rfl
  have HN := Lib.hid hn
  obtain ⟨iB, hi1, hi2, hi3, hi4⟩ := info3b infoBo
  clear hn hv1 hv2 hcap
  go_upto_region 30 with (fail)
  have he0 := heap_alloc_new w4 (.cells #[] 57)
  have hz4 := lt_of_row RA4.out
  have hlow4 := O4.out.size
  obtain ⟨ge, hge⟩ : ∃ g, w4.heap.size = g := ⟨_, rfl⟩
  have ba := (Below.refl w4.heap.size w4).alloc (Nat.le_refl _) (.cells #[] 57)
  have q0' : (w4.alloc (.cells #[] 57)).cell? ⟨q, 0, none⟩ = some (.slice A n cap) := ((Only.refl w4 (fun _ => False)).alloc _).cell (fun t => t) q0
  rw [hge] at he0
  rw [hge]
  clear q0 zE0
  have hbb := ba
  have h5 := h4.below ba
  have O5 : Hid (Only w (w4.alloc (.cells #[] 57)) (Ow q gs gm G)) := Lib.hid (O4.out.tr (Only.of_below ba))
  have RS5 : Hid ((w4.alloc (.cells #[] 57)).heap[Hs]? = some (.cells #[.int .i64 5, .int .i64 e1, .int .i64 e2, .int .i64 e3, .int .i64 e4, .int .i64 e5, .int .i64 e6, .int .i64 e7, .int .i64 e8, .int .i64 e9, .int .i64 0, .int .i64 a1, .int .i64 a2, .int .i64 a3, .slice sA sl sc] 34 (0, 0))) := Lib.hid (by rw [ba.block _ (lt_of_row RS4.out)]; exact RS4.out)
  have RE5 : Hid ((w4.alloc (.cells #[] 57)).heap[(Hs + 1)]? = some (.cells #[.int .i64 5, .int .i64 e1, .int .i64 e2, .int .i64 e3, .int .i64 e4, .int .i64 e5, .int .i64 e6, .int .i64 e7, .int .i64 e8, .int .i64 e9] 26 (0, 0))) := Lib.hid (by rw [ba.block _ (lt_of_row RE4.out)]; exact RE4.out)
  have RA5 : Hid ((w4.alloc (.cells #[] 57)).heap[(Hs + 1 + 1)]? = some (.cells #[.int .i64 0, .int .i64 a1, .int .i64 a2, .int .i64 a3] 31 (0, 0))) := Lib.hid (by rw [ba.block _ (lt_of_row RA4.out)]; exact RA4.out)
  have hge1 : Hs + 1 + 1 < ge ∧ w.heap.size ≤ ge ∧ ∀ j, Ow q gs gm G j → j ≠ ge := ⟨by omega, by omega, fun j t => by have := HNN.out j t; omega⟩
  have HGE := Lib.hid hge1
  clear h4 O4 RS4 RE4 RA4 ba hbb hz4 hlow4 hge hge1
  generalize w4.alloc (.cells #[] 57) = w5 at h5 O5 RS5 RE5 RA5 he0 q0' ⊢
  have row0 : Row brow 5 57 w5 ge 0 0 (boT []) := ⟨[], he0, rfl, Nat.le_refl _, by decide, fun j hj => by omega⟩
  have ROW0 := Lib.hid row0
  clear he0 row0
  go_wp2_with fail
  go_loopg [9, 147] n (fun gk v9 v147 wr => ∃ (k g' m cap' : Nat) (L' : List Bv), v147 = .int .i64 (k : Int) ∧ k + gk = n ∧ v9 = .slice (some ⟨g', 0, none⟩) m cap' ∧ Hid (L' = (W.L.take k).filter (fun b => b.ho != e1)) ∧ Hid (L'.length = m) ∧ m ≤ k ∧ Hid (Row brow 5 57 wr g' m cap' (boT L')) ∧ Hid (Wl wr q gs gm G W N) ∧ Hid (Only w wr (Ow q gs gm G)) ∧ Hid (Hs + 1 + 1 < g' ∧ w.heap.size ≤ g' ∧ ∀ j, Ow q gs gm G j → j ≠ g') ∧ Hid (wr.cell? ⟨q, 0, none⟩ = some (.slice A n cap)) ∧ Hid (wr.heap[Hs]? = some (.cells #[.int .i64 5, .int .i64 e1, .int .i64 e2, .int .i64 e3, .int .i64 e4, .int .i64 e5, .int .i64 e6, .int .i64 e7, .int .i64 e8, .int .i64 e9, .int .i64 0, .int .i64 a1, .int .i64 a2, .int .i64 a3, .slice sA sl sc] 34 (0, 0))) ∧ Hid (wr.heap[(Hs + 1)]? = some (.cells #[.int .i64 5, .int .i64 e1, .int .i64 e2, .int .i64 e3, .int .i64 e4, .int .i64 e5, .int .i64 e6, .int .i64 e7, .int .i64 e8, .int .i64 e9] 26 (0, 0))) ∧ Hid (wr.heap[(Hs + 1 + 1)]? = some (.cells #[.int .i64 0, .int .i64 a1, .int .i64 a2, .int .i64 a3] 31 (0, 0))))
  case atStart => exact ⟨0, ge, 0, 0, [], rfl, by omega, rfl, Lib.hid rfl, Lib.hid rfl, Nat.le_refl _, ROW0, Lib.hid h5, O5, HGE, Lib.hid q0', RS5, RE5, RA5⟩
  case round =>
    clear h5 O5 RS5 RE5 RA5 q0' ROW0 HGE
    obtain ⟨k, g', m, cap', L', rfl, hkn, rfl, HL, HLM, hmk, HROW, HW, HO, HGE, HQ, RSL, REL, RAL⟩ := hrel
    have HK := Lib.hid hkn
    by_cases hk : k < n
    · have hki : (k : Int) < (n : Int) := by omega
      have hkl : k < W.L.length := by rw [HN.out]; exact hk
      obtain ⟨⟨bi, bf, bh, bb, bu⟩, hat⟩ : ∃ b, W.L[k]? = some b := ⟨_, boT_some hkl⟩
      obtain ⟨ad, cap2, g2, hAd, hG, y0', _, y1, y2, y3, y4, y5⟩ := HW.out.item hat
      have hq0 := HQ.out
      rw [hq0, HN.out] at y0'
      injection y0' with y0'
      injection y0' with e1' e2' e3'
      subst e1'
      have htk : W.L.take (k + 1) = W.L.take k ++ [⟨bi, bf, bh, bb, bu⟩] := by rw [List.take_add_one, hat]; rfl
      have HTK := Lib.hid htk
      have zE := (cellB REL.out 1 _ rfl : wr.cell? ⟨(Hs + 1), 1, none⟩ = some (.int .i64 e1))
      have hsz := lt_of_row RAL.out
      have hwz := HO.out.size
      have oB := (Only.refl wr (fun _ => False)).alloc (.cells #[.int .i64 bi, .int .i64 bf, .int .i64 bh, .bool bb, .bool bu] 57)
      have zE2 := oB.cell (fun t => t) zE
      clear hq0 htk hat hkn hAd hG e2' e3' zE
      by_cases he : bh = e1
      · subst he
        have HL2 : Hid (L' = (W.L.take (k + 1)).filter (fun b => b.ho != bh)) := Lib.hid (by rw [HTK.out, List.filter_append, HL.out]; simp)
        have H5 := Lib.hid (HW.out.kept oB (fun _ _ t => t))
        have O5 := Lib.hid (HO.out.alloc (.cells #[.int .i64 bi, .int .i64 bf, .int .i64 bh, .bool bb, .bool bu] 57))
        have ROW5 := Lib.hid (HROW.out.kept oB (fun t => t))
        have Q5 := Lib.hid (oB.cell (fun t => t) HQ.out)
        have RS5 := Lib.hid (oB.blk (fun t => t) RSL.out)
        have RE5 := Lib.hid (oB.blk (fun t => t) REL.out)
        have RA5 := Lib.hid (oB.blk (fun t => t) RAL.out)
        clear oB HW HO HROW HQ RSL REL RAL
        go_wp2_with fail
        go_roundg (n - k - 1)
        case measure => have := HK.out; omega
        case rel => exact ⟨k + 1, g', m, cap', L', by go_num, by have := HK.out; omega, rfl, HL2, HLM, by omega, ROW5, H5, O5, HGE, Q5, RS5, RE5, RA5⟩
      · have hd : (bh == e1) = false := beq_false_of_ne he
        have HL2 : Hid (L' ++ [⟨bi, bf, bh, bb, bu⟩] = (W.L.take (k + 1)).filter (fun b => b.ho != e1)) := Lib.hid (by rw [HTK.out, List.filter_append, HL.out]; simp [he])
        have oC := oB.alloc (.cells #[.int .i64 bi, .int .i64 bf, .int .i64 bh, .bool bb, .bool bu] 57)
        have rowC := HROW.out.kept oC (fun t => t)
        have hits : Its brow 5 57 ((wr.alloc (.cells #[.int .i64 bi, .int .i64 bf, .int .i64 bh, .bool bb, .bool bu] 57)).alloc (.cells #[.int .i64 bi, .int .i64 bf, .int .i64 bh, .bool bb, .bool bu] 57)) (.slice (some ⟨g', 0, none⟩) m cap') (some g') m (boT L') := Or.inr ⟨g', cap', rfl, rfl, rowC⟩
        have hrg : ((wr.alloc (.cells #[.int .i64 bi, .int .i64 bf, .int .i64 bh, .bool bb, .bool bu] 57)).alloc (.cells #[.int .i64 bi, .int .i64 bf, .int .i64 bh, .bool bb, .bool bu] 57)).rangeAt (wr.heap.size + 1) 0 (brow ⟨bi, bf, bh, bb, bu⟩) := by
          have := range_new (wr.alloc (.cells #[.int .i64 bi, .int .i64 bf, .int .i64 bh, .bool bb, .bool bu] 57)) (brow ⟨bi, bf, bh, bb, bu⟩) 57
          rw [World.size_alloc] at this
          exact this
        have hmx : m + 1 ≤ maxLen := by
          have : (1073741824 : Nat) < maxLen := by decide
          omega
        have hby : (m + 1) * 32 ≤ 140737488355328 := by omega
        have hsz2 : ((wr.alloc (.cells #[.int .i64 bi, .int .i64 bf, .int .i64 bh, .bool bb, .bool bu] 57)).alloc (.cells #[.int .i64 bi, .int .i64 bf, .int .i64 bh, .bool bb, .bool bu] 57)).heap.size = wr.heap.size + 2 := by rw [World.size_alloc, World.size_alloc]
        have HSZ := Lib.hid hsz2
        have OC := Lib.hid oC
        clear oB rowC hsz2 oC
        go_wp2_with (first
          | (at_builtin; refine wpList_item_app encB rfl (.tmp 156) (.tmp 158) 45 rfl iB _ 32 Try.underlying45 hi1 hi2 hi3 hi4 rfl _ (some g') m (boT L') rfl hits ⟨bi, bf, bh, bb, bu⟩ (wr.heap.size + 1) rfl hrg hmx hby ?_; intro g5 cap5 w5 row5 hon5 hgg5))
        have hon := hon5 (fun j => j = g') (fun g' q => by cases q; rfl)
        have o5 : Only wr w5 (fun j => j = g') := (OC.out.mono (fun j t => t.elim) : Only wr _ (fun j => j = g')).tr hon
        obtain ⟨p1, p2, p3⟩ := HGE.out
        have hg5 : g5 = g' ∨ wr.heap.size + 2 ≤ g5 := by
          rcases hgg5 with t | t
          · left; injection t with t; exact t.symm
          · right; rw [HSZ.out] at t; exact t
        have HGE5 : Hid (Hs + 1 + 1 < g5 ∧ w.heap.size ≤ g5 ∧ ∀ j, Ow q gs gm G j → j ≠ g5) := Lib.hid (by
          rcases hg5 with t | t
          · rw [t]; exact ⟨p1, p2, p3⟩
          · exact ⟨by omega, by omega, fun j t2 => by have := HNN.out j t2; omega⟩)
        have H5 := Lib.hid (HW.out.kept o5 (fun j t t2 => p3 j t t2))
        have O5 : Hid (Only w w5 (Ow q gs gm G)) := Lib.hid (HO.out.trans o5 (fun j t => Or.inr (by rw [t]; exact p2)))
        have ROW5 : Hid (Row brow 5 57 w5 g5 (m + 1) cap5 (boT (L' ++ [⟨bi, bf, bh, bb, bu⟩]))) := Lib.hid (row5.ext (fun j hj => by
          by_cases e : j = m
          · subst e
            rw [upd_same, boT_at (b := ⟨bi, bf, bh, bb, bu⟩)]
            rw [List.getElem?_append_right (by rw [HLM.out]; exact Nat.le_refl _), HLM.out]; simp
          · rw [upd_ne _ _ e, boT_at (b := boT L' j)]
            have hjl : j < L'.length := by rw [HLM.out]; omega
            rw [List.getElem?_append_left hjl]; exact boT_some hjl))
        have Q5 := Lib.hid (o5.cell (x := ⟨q, 0, none⟩) (fun t => p3 q (Or.inl rfl) t) HQ.out)
        have RS5 := Lib.hid (o5.blk (fun t => by omega) RSL.out)
        have RE5 := Lib.hid (o5.blk (fun t => by omega) REL.out)
        have RA5 := Lib.hid (o5.blk (fun t => by omega) RAL.out)
        have HLM5 : Hid ((L' ++ [(⟨bi, bf, bh, bb, bu⟩ : Bv)]).length = m + 1) := Lib.hid (by rw [List.length_append, HLM.out]; rfl)
        clear row5 hon5 hgg5 hon o5 hg5 p1 p2 p3 HW HO HROW HQ RSL REL RAL hits hrg
        go_wp2_with fail
        go_roundg (n - k - 1)
        case measure => have := HK.out; omega
        case rel => exact ⟨k + 1, g5, m + 1, cap5, _, by go_num, by have := HK.out; omega, rfl, HL2, HLM5, by omega, ROW5, H5, O5, HGE5, Q5, RS5, RE5, RA5⟩
    · obtain rfl : k = n := by omega
      have hd : decide ((k : Int) < (k : Int)) = false := by simp
      have hall : W.L.take k = W.L := by rw [← HN.out]; exact List.take_length
      have HL3 : Hid (L' = W.L.filter (fun b => b.ho != e1)) := Lib.hid (by rw [HL.out, hall])
      clear hall hkn hk
      obtain ⟨v5, hv1, _⟩ := HW.out.row
      obtain ⟨p1, p2, p3⟩ := HGE.out
      have hne : g' ≠ q ∧ g' ≠ gs ∧ g' ≠ gm := ⟨fun t => p3 q (Or.inl rfl) t.symm, fun t => p3 gs (Or.inr (Or.inl rfl)) t.symm, fun t => p3 gm (Or.inr (Or.inr (Or.inl rfl))) t.symm⟩
      have hsub : L'.Sublist W.L := by rw [HL3.out]; exact List.filter_sublist
      have h77 := HW.out
      have O77 := HO
      have RS77 := RSL
      have RE77 := REL
      have RA77 := RAL
      have hrow := HROW.out
      clear HW HO RSL REL RAL HROW HQ
      go_upto_region 37 with (refine wpList_store_one rfl 45 (.tmp 164) (.tmp 162) rfl (by kernel_rfl) q 0 rfl (.slice (some ⟨g', 0, none⟩) m cap') rfl rfl rfl _ _ hv1 (by simp) ?_; intro w78 m78 g78)
      have h78 := h77.setL HLM.out hrow hne m78.out g78 (h77.gd.sub hsub)
      have hown : Ow q gs gm G (q) := Or.inl rfl
      have hlo := HNN.out _ hown
      have O78 : Hid (Only w w78 (Ow q gs gm G)) := Lib.hid (O77.out.tr (Only.grown g78 (Or.inl hown)))
      have RS78 : Hid (w78.heap[Hs]? = some (.cells #[.int .i64 5, .int .i64 e1, .int .i64 e2, .int .i64 e3, .int .i64 e4, .int .i64 e5, .int .i64 e6, .int .i64 e7, .int .i64 e8, .int .i64 e9, .int .i64 0, .int .i64 a1, .int .i64 a2, .int .i64 a3, .slice sA sl sc] 34 (0, 0))) := Lib.hid ((Only.grown (S := fun j => j = q) g78 (Or.inl rfl)).blk (fun t => by omega) RS77.out)
      have RE78 : Hid (w78.heap[(Hs + 1)]? = some (.cells #[.int .i64 5, .int .i64 e1, .int .i64 e2, .int .i64 e3, .int .i64 e4, .int .i64 e5, .int .i64 e6, .int .i64 e7, .int .i64 e8, .int .i64 e9] 26 (0, 0))) := Lib.hid ((Only.grown (S := fun j => j = q) g78 (Or.inl rfl)).blk (fun t => by omega) RE77.out)
      have RA78 : Hid (w78.heap[(Hs + 1 + 1)]? = some (.cells #[.int .i64 0, .int .i64 a1, .int .i64 a2, .int .i64 a3] 31 (0, 0))) := Lib.hid ((Only.grown (S := fun j => j = q) g78 (Or.inl rfl)).blk (fun t => by omega) RA77.out)
      clear h77 O77 RS77 RE77 RA77 m78 g78 hown hlo
      clear hv1
      have qg := h78.q2.1
      have zE1 := (cellB RE78.out 1 _ rfl : w78.cell? ⟨(Hs + 1), 1, none⟩ = some (.int .i64 e1))
      go_wp2_with fail
      go_still_tail 6, (by kernel_rfl)
      change wpList _ _ _ _ _ w78.drew
      clear qg zE1
      have h79 : Wl w78.drew q gs gm (some g') ({ W with L := L' } : Wd) N := h78.drewN 1
      have O79 : Hid (Only w w78.drew (Ow q gs gm G)) := Lib.hid (O78.out.drewN 1)
      have RS79 : Hid (w78.drew.heap[Hs]? = some (.cells #[.int .i64 5, .int .i64 e1, .int .i64 e2, .int .i64 e3, .int .i64 e4, .int .i64 e5, .int .i64 e6, .int .i64 e7, .int .i64 e8, .int .i64 e9, .int .i64 0, .int .i64 a1, .int .i64 a2, .int .i64 a3, .slice sA sl sc] 34 (0, 0))) := RS78
      have RE79 : Hid (w78.drew.heap[(Hs + 1)]? = some (.cells #[.int .i64 5, .int .i64 e1, .int .i64 e2, .int .i64 e3, .int .i64 e4, .int .i64 e5, .int .i64 e6, .int .i64 e7, .int .i64 e8, .int .i64 e9] 26 (0, 0))) := RE78
      have RA79 : Hid (w78.drew.heap[(Hs + 1 + 1)]? = some (.cells #[.int .i64 0, .int .i64 a1, .int .i64 a2, .int .i64 a3] 31 (0, 0))) := RA78
      generalize w78.drew = w79 at h79 O79 RS79 RE79 RA79 ⊢
      clear h78 O78 RS78 RE78 RA78
      have hgd : Gd ({ W with L := L', sz := upI W.sz e1 0 } : Wd) (N + 1) := by
        rw [HL3.out]
        exact HGD.out
      obtain ⟨Ms, c, s1, s2, s3⟩ := h79.sz
      refine wpList_mp_set rfl (.tmp 168) (.tmp 170) (.const (.int .i64 0)) 44 rfl 3 3 Try.underlying3 Try.underlying44 _ _ _ rfl s1 (len1g (by omega)) e1 rfl wfi (.int .i64 0) rfl _ rfl ?_
      intro w80 m80 g80
      have h80 := h79.setSz s2 s3 m80 rfl g80 hgd
      have hown : Ow q gs gm G (gs) := Or.inr (Or.inl rfl)
      have hlo := HNN.out _ hown
      have O80 : Hid (Only w w80 (Ow q gs gm G)) := Lib.hid (O79.out.tr (Only.grown g80 (Or.inl hown)))
      have RS80 : Hid (w80.heap[Hs]? = some (.cells #[.int .i64 5, .int .i64 e1, .int .i64 e2, .int .i64 e3, .int .i64 e4, .int .i64 e5, .int .i64 e6, .int .i64 e7, .int .i64 e8, .int .i64 e9, .int .i64 0, .int .i64 a1, .int .i64 a2, .int .i64 a3, .slice sA sl sc] 34 (0, 0))) := Lib.hid ((Only.grown (S := fun j => j = gs) g80 (Or.inl rfl)).blk (fun t => by omega) RS79.out)
      have RE80 : Hid (w80.heap[(Hs + 1)]? = some (.cells #[.int .i64 5, .int .i64 e1, .int .i64 e2, .int .i64 e3, .int .i64 e4, .int .i64 e5, .int .i64 e6, .int .i64 e7, .int .i64 e8, .int .i64 e9] 26 (0, 0))) := Lib.hid ((Only.grown (S := fun j => j = gs) g80 (Or.inl rfl)).blk (fun t => by omega) RE79.out)
      have RA80 : Hid (w80.heap[(Hs + 1 + 1)]? = some (.cells #[.int .i64 0, .int .i64 a1, .int .i64 a2, .int .i64 a3] 31 (0, 0))) := Lib.hid ((Only.grown (S := fun j => j = gs) g80 (Or.inl rfl)).blk (fun t => by omega) RA79.out)
      clear h79 O79 RS79 RE79 RA79 m80 g80 hown hlo
      clear s1 s2 s3 hgd
      have h80' : Wl w80 q gs gm (some g') ({ W with L := W.L.filter (fun b => b.ho != e1), sz := upI W.sz e1 0 } : Wd) (N + 1) := by rw [← HL3.out]; exact h80
      clear h80
      have h80 := h80'
      clear h80'
      have HG1 : Hid (∀ g, (some g' : Option Nat) = some g → G = some g ∨ w.heap.size ≤ g) := Lib.hid (fun g hg => by cases hg; exact Or.inr p2)
      have HO1 : Hid (∀ j, Ow q gs gm (some g') j → j < Hs ∨ Hs + 1 + 1 < j) := Lib.hid (fun j t => by
        rcases t with t | t | t | t
        · exact Or.inl (HNN.out j (Or.inl t))
        · exact Or.inl (HNN.out j (Or.inr (Or.inl t)))
        · exact Or.inl (HNN.out j (Or.inr (Or.inr (Or.inl t))))
        · injection t with t; right; omega)
      have hst : stp W (⟨5, e1, e2, e3, e4, e5, e6, e7, e8, e9⟩, ⟨0, a1, a2, a3⟩, cs) = cmds ({ W with L := W.L.filter (fun b => b.ho != e1), sz := upI W.sz e1 0 } : Wd) cs := by
        rw [stp_go HR.out HA.out (by simp) (fun t => t.elim (fun t => t.2 rfl) (fun t => k6 t.1)), (show hap W ⟨5, e1, e2, e3, e4, e5, e6, e7, e8, e9⟩ = some ({ W with L := W.L.filter (fun b => b.ho != e1), sz := upI W.sz e1 0 } : Wd) from by simp [hap])]
        dsimp only
        cases cmds ({ W with L := W.L.filter (fun b => b.ho != e1), sz := upI W.sz e1 0 } : Wd) cs with
        | none => rfl
        | some W3 => exact clo_not6 k6
      have HSTN : Hid (cmds ({ W with L := W.L.filter (fun b => b.ho != e1), sz := upI W.sz e1 0 } : Wd) cs = none → stp W (⟨5, e1, e2, e3, e4, e5, e6, e7, e8, e9⟩, ⟨0, a1, a2, a3⟩, cs) = none) := Lib.hid (fun t => by rw [hst]; exact t)
      have HSTY : Hid (∀ {W2}, cmds ({ W with L := W.L.filter (fun b => b.ho != e1), sz := upI W.sz e1 0 } : Wd) cs = some W2 → stp W (⟨5, e1, e2, e3, e4, e5, e6, e7, e8, e9⟩, ⟨0, a1, a2, a3⟩, cs) = some W2) := Lib.hid (fun t => by rw [hst]; exact t)
      clear hst
      have zS14 := (cellB RS80.out 14 _ rfl : w80.cell? ⟨Hs, 14, none⟩ = some (.slice sA sl sc))
      go_wp2_with fail
      go_loopg [174] sl (fun gk v wr => ∃ (k : Nat) (W2 : Wd) (G2 : Option Nat), v = .int .i64 (k : Int) ∧ k + gk = sl ∧ Hid (Wl wr q gs gm G2 W2 (N + 1 + k)) ∧ Hid (Only w wr (Ow q gs gm G)) ∧ Hid (∀ g, G2 = some g → G = some g ∨ w.heap.size ≤ g) ∧ Hid (∀ j, Ow q gs gm G2 j → j < Hs ∨ Hs + 1 + 1 < j) ∧ Hid (cmds ({ W with L := W.L.filter (fun b => b.ho != e1), sz := upI W.sz e1 0 } : Wd) cs = cmds W2 (cs.drop k)) ∧ Hid (Hs + 1 + 1 < wr.heap.size))
      case atStart => exact ⟨0, _, _, rfl, by omega, Lib.hid h80, O80, HG1, HO1, rfl, Lib.hid (lt_of_row RA80.out)⟩
      case round =>
        clear h80 O80 HG1 HO1 zS14 RS80 RE80 RA80
        obtain ⟨j, W2, G2, rfl, hjs, HW, HO, HG2, HO2, HC, HLT⟩ := hrel
        have HJ := Lib.hid hjs
        by_cases hj : j < sl
        · have hji : (j : Int) < (sl : Int) := by omega
          have hjc : j < cs.length := by rw [HCS.out]; exact hj
          obtain ⟨⟨bt, i, f, x⟩, hc⟩ : ∃ c, cs[j]? = some c := ⟨_, List.getElem?_eq_getElem hjc⟩
          have hcw := HCW.out _ (List.mem_of_getElem? hc)
          have hdr : cs.drop j = (bt, i, f, x) :: cs.drop (j + 1) := by
            rw [List.drop_eq_getElem_cons hjc]
            rw [List.getElem?_eq_getElem hjc] at hc
            injection hc with hc; rw [hc]
          have HC2 : Hid (cmds ({ W with L := W.L.filter (fun b => b.ho != e1), sz := upI W.sz e1 0 } : Wd) cs = cmds W2 ((bt, i, f, x) :: cs.drop (j + 1))) := Lib.hid (by rw [HC.out, hdr])
          obtain ⟨ad, hA, hadb, y0, yy1, yy2, yy3⟩ := HCL.out.keep (w' := wr) (fun z hz => HO.out.block z (Nat.lt_of_lt_of_le hz HBS.out.1) (fun t => by have := HBS.out.2 z t; omega)) j _ hc
          dsimp only at y0 yy1 yy2 yy3
          have x1 := cell_in0 (by decide) yy1
          have x2 := cell_in0 (by decide) yy2
          have x3 := cell_in0 (by decide) yy3
          subst hA
          have h5 := HW.out.below ((Below.refl _ _).alloc (Nat.le_refl _) (.cells #[.bool bt, .int .i64 i, .int .i64 f, .int .i64 x] 38))
          have O5 := Lib.hid (HO.out.alloc (.cells #[.bool bt, .int .i64 i, .int .i64 f, .int .i64 x] 38))
          have hcm := l_cmd (c := (bt, i, f, x)) h5 (by omega) hcw
          have HCM := Lib.hid hcm
          have hws := HO.out.size
          have hwa : (wr.alloc (.cells #[.bool bt, .int .i64 i, .int .i64 f, .int .i64 x] 38)).heap.size = wr.heap.size + 1 := World.size_alloc _ _
          have HWA := Lib.hid hwa
          have HSZ : Hid (Hs + 1 + 1 < wr.heap.size) := Lib.hid HLT.out
          clear yy1 yy2 yy3 hdr hc hadb hcm hwa hjs HW HO h5 HC 
          go_wp2_with fail
          refine HCM.out.mono ?_
          rintro e w6 ⟨o6, ⟨hr6, rfl⟩ | ⟨W3, G3, hr6, rfl, h6, hg6⟩⟩
          · have HN6 := Lib.hid hr6
            have O6 : Hid (Only w w6 (Ow q gs gm G)) := Lib.hid (O5.out.trans o6 (fun z t => by
              rcases t with t | t | t | t
              · exact Or.inl (Or.inl t)
              · exact Or.inl (Or.inr (Or.inl t))
              · exact Or.inl (Or.inr (Or.inr (Or.inl t)))
              · rcases HG2.out z t with t | t
                · exact Or.inl (Or.inr (Or.inr (Or.inr t)))
                · exact Or.inr t))
            clear o6 hr6
            go_wp2_with fail
            go_ret
            exact ⟨O6.out, Or.inl ⟨HSTN.out (by rw [HC2.out, cmds, HN6.out]), rfl⟩⟩
          · have HC3 : Hid (cmds ({ W with L := W.L.filter (fun b => b.ho != e1), sz := upI W.sz e1 0 } : Wd) cs = cmds W3 (cs.drop (j + 1))) := Lib.hid (by rw [HC2.out, cmds, hr6])
            have O6 : Hid (Only w w6 (Ow q gs gm G)) := Lib.hid (O5.out.trans o6 (fun z t => by
              rcases t with t | t | t | t
              · exact Or.inl (Or.inl t)
              · exact Or.inl (Or.inr (Or.inl t))
              · exact Or.inl (Or.inr (Or.inr (Or.inl t)))
              · rcases HG2.out z t with t | t
                · exact Or.inl (Or.inr (Or.inr (Or.inr t)))
                · exact Or.inr t))
            have HG3 : Hid (∀ g, G3 = some g → G = some g ∨ w.heap.size ≤ g) := Lib.hid (fun g hg => by
              rcases hg6 g hg with t | t
              · exact HG2.out g t
              · right; have := HWA.out; omega)
            have HO3 : Hid (∀ z, Ow q gs gm G3 z → z < Hs ∨ Hs + 1 + 1 < z) := Lib.hid (fun z t => by
              rcases t with t | t | t | t
              · exact HO2.out z (Or.inl t)
              · exact HO2.out z (Or.inr (Or.inl t))
              · exact HO2.out z (Or.inr (Or.inr (Or.inl t)))
              · rcases hg6 z t with t | t
                · exact HO2.out z (Or.inr (Or.inr (Or.inr t)))
                · right; have := HWA.out; have := HSZ.out; omega)
            have H6 : Hid (Wl w6 q gs gm G3 W3 (N + 1 + (j + 1))) := Lib.hid h6
            have HSZ6 : Hid (Hs + 1 + 1 < w6.heap.size) := Lib.hid (by have := o6.size; have := HWA.out; have := HSZ.out; omega)
            clear hr6 o6 h6 hg6 
            go_wp2_with fail
            go_roundg (sl - j - 1)
            case measure => have := HJ.out; omega
            case rel => exact ⟨j + 1, W3, G3, by go_num, by have := HJ.out; omega, H6, O6, HG3, HO3, HC3, HSZ6⟩
        · obtain rfl : j = sl := by omega
          have hd : decide ((j : Int) < (j : Int)) = false := by simp
          have hdr : cs.drop j = [] := List.drop_eq_nil_of_le (by rw [HCS.out]; exact Nat.le_refl _)
          have HCF : Hid (cmds ({ W with L := W.L.filter (fun b => b.ho != e1), sz := upI W.sz e1 0 } : Wd) cs = some W2) := Lib.hid (by rw [HC.out, hdr]; rfl)
          clear hdr hj hjs
          go_wp2_with fail
          go_ret
          exact ⟨HO.out, Or.inr ⟨W2, G2, HSTY.out HCF.out, rfl, HW.out.up (by omega), HG2.out⟩⟩
end Go.Proofs.Ytgpookphacdgoaa.W.U
