/- Package audit's law: a step, by the event's kind. Made by mk_auy.py. -/
import Derived.Test.YtgpookphacdgoaaAuYh
import Derived.Deep.LoopGhost
namespace Go.Proofs.Ytgpookphacdgoaa.W.U
open Go.RowKit Go.Maps Go.ChangeMaps Go.MapKept Go.Proofs.Ytgpookphacdgoaa.W

set_option maxRecDepth 100000 in
set_option maxHeartbeats 3200000 in
theorem l_step64 {w : World} {q gs gm : Nat} {G : Option Nat} {W : Wd} {N : Nat} (h : Wl w q gs gm G W N) {e1 e2 e3 e4 e5 e6 e7 e8 e9 a1 a2 a3 : Int} {sA : Option Addr} {sl sc : Nat} {B : Nat} {cs : List Cmd} (hcs : cs.length = sl) (hcl : CL w B sA cs) (hcw : ∀ c ∈ cs, cwf c) (hB : B ≤ w.heap.size ∧ ∀ j, Ow q gs gm G j → B ≤ j) (hN : N + 2 * sl + 2 < 1048570) (hr : right ⟨6, e1, e2, e3, e4, e5, e6, e7, e8, e9⟩) (ha : okA ⟨4, a1, a2, a3⟩) : Calls Try.prog 10 #[ptr q, .agg #[.int .i64 6, .int .i64 e1, .int .i64 e2, .int .i64 e3, .int .i64 e4, .int .i64 e5, .int .i64 e6, .int .i64 e7, .int .i64 e8, .int .i64 e9, .int .i64 4, .int .i64 a1, .int .i64 a2, .int .i64 a3, .slice sA sl sc]] w (Lr w q gs gm G (N + 2 * sl + 2) (stp W (⟨6, e1, e2, e3, e4, e5, e6, e7, e8, e9⟩, ⟨4, a1, a2, a3⟩, cs))) := by
  have HR := Lib.hid hr
  have HA := Lib.hid ha
  have HCS := Lib.hid hcs
  have HCL := Lib.hid hcl
  have HCW := Lib.hid hcw
  have HBS := Lib.hid hB
  have hsl : sl ≤ 1048570 := by omega
  clear hcs hcl hcw hB
  go_enter Try.func10, Try.ntmps10
  go_wp2_with fail
  have r0 := heap_alloc_new w (.cells #[.int .i64 6, .int .i64 e1, .int .i64 e2, .int .i64 e3, .int .i64 e4, .int .i64 e5, .int .i64 e6, .int .i64 e7, .int .i64 e8, .int .i64 e9, .int .i64 4, .int .i64 a1, .int .i64 a2, .int .i64 a3, .slice sA sl sc] 34)
  have r1 := heap_alloc_new (w.alloc (.cells #[.int .i64 6, .int .i64 e1, .int .i64 e2, .int .i64 e3, .int .i64 e4, .int .i64 e5, .int .i64 e6, .int .i64 e7, .int .i64 e8, .int .i64 e9, .int .i64 4, .int .i64 a1, .int .i64 a2, .int .i64 a3, .slice sA sl sc] 34)) (.cells #[.int .i64 6, .int .i64 e1, .int .i64 e2, .int .i64 e3, .int .i64 e4, .int .i64 e5, .int .i64 e6, .int .i64 e7, .int .i64 e8, .int .i64 e9] 26)
  have r2 := heap_alloc_new ((w.alloc (.cells #[.int .i64 6, .int .i64 e1, .int .i64 e2, .int .i64 e3, .int .i64 e4, .int .i64 e5, .int .i64 e6, .int .i64 e7, .int .i64 e8, .int .i64 e9, .int .i64 4, .int .i64 a1, .int .i64 a2, .int .i64 a3, .slice sA sl sc] 34)).alloc (.cells #[.int .i64 6, .int .i64 e1, .int .i64 e2, .int .i64 e3, .int .i64 e4, .int .i64 e5, .int .i64 e6, .int .i64 e7, .int .i64 e8, .int .i64 e9] 26)) (.cells #[.int .i64 4, .int .i64 a1, .int .i64 a2, .int .i64 a3] 31)
  have k1 := (Only.refl (w.alloc (.cells #[.int .i64 6, .int .i64 e1, .int .i64 e2, .int .i64 e3, .int .i64 e4, .int .i64 e5, .int .i64 e6, .int .i64 e7, .int .i64 e8, .int .i64 e9, .int .i64 4, .int .i64 a1, .int .i64 a2, .int .i64 a3, .slice sA sl sc] 34)) (fun _ => False)).alloc (.cells #[.int .i64 6, .int .i64 e1, .int .i64 e2, .int .i64 e3, .int .i64 e4, .int .i64 e5, .int .i64 e6, .int .i64 e7, .int .i64 e8, .int .i64 e9] 26)
  have k2 := (Only.refl ((w.alloc (.cells #[.int .i64 6, .int .i64 e1, .int .i64 e2, .int .i64 e3, .int .i64 e4, .int .i64 e5, .int .i64 e6, .int .i64 e7, .int .i64 e8, .int .i64 e9, .int .i64 4, .int .i64 a1, .int .i64 a2, .int .i64 a3, .slice sA sl sc] 34)).alloc (.cells #[.int .i64 6, .int .i64 e1, .int .i64 e2, .int .i64 e3, .int .i64 e4, .int .i64 e5, .int .i64 e6, .int .i64 e7, .int .i64 e8, .int .i64 e9] 26)) (fun _ => False)).alloc (.cells #[.int .i64 4, .int .i64 a1, .int .i64 a2, .int .i64 a3] 31)
  have r0' := k2.blk (fun t => t) (k1.blk (fun t => t) r0)
  have r1' := k2.blk (fun t => t) r1
  rw [World.size_alloc] at r1'
  rw [World.size_alloc, World.size_alloc] at r2
  have bb := ((((Below.refl w.heap.size w).alloc (Nat.le_refl _) (.cells #[.int .i64 6, .int .i64 e1, .int .i64 e2, .int .i64 e3, .int .i64 e4, .int .i64 e5, .int .i64 e6, .int .i64 e7, .int .i64 e8, .int .i64 e9, .int .i64 4, .int .i64 a1, .int .i64 a2, .int .i64 a3, .slice sA sl sc] 34))).alloc (by rw [World.size_alloc]; omega) (.cells #[.int .i64 6, .int .i64 e1, .int .i64 e2, .int .i64 e3, .int .i64 e4, .int .i64 e5, .int .i64 e6, .int .i64 e7, .int .i64 e8, .int .i64 e9] 26)).alloc (by rw [World.size_alloc, World.size_alloc]; omega) (.cells #[.int .i64 4, .int .i64 a1, .int .i64 a2, .int .i64 a3] 31)
  have h1 := h.below bb
  have O1 := Lib.hid (Only.of_below (S := Ow q gs gm G) bb)
  have hnn : ∀ j, Ow q gs gm G j → j < w.heap.size := fun j t => h.lt t
  obtain ⟨Hs, hHs⟩ : ∃ z, w.heap.size = z := ⟨_, rfl⟩
  have HLE : Hid (w.heap.size ≤ Hs) := Lib.hid (by omega)
  rw [hHs] at r0' r1' r2 hnn
  try rw [hHs]
  have HNN := Lib.hid hnn
  clear hHs bb r0 r1 k1 k2 h hnn
  generalize ((w.alloc (.cells #[.int .i64 6, .int .i64 e1, .int .i64 e2, .int .i64 e3, .int .i64 e4, .int .i64 e5, .int .i64 e6, .int .i64 e7, .int .i64 e8, .int .i64 e9, .int .i64 4, .int .i64 a1, .int .i64 a2, .int .i64 a3, .slice sA sl sc] 34)).alloc (.cells #[.int .i64 6, .int .i64 e1, .int .i64 e2, .int .i64 e3, .int .i64 e4, .int .i64 e5, .int .i64 e6, .int .i64 e7, .int .i64 e8, .int .i64 e9] 26)).alloc (.cells #[.int .i64 4, .int .i64 a1, .int .i64 a2, .int .i64 a3] 31) = w1 at r0' r1' r2 h1 O1 ⊢
  have RS1 := Lib.hid r0'
  have RE1 := Lib.hid r1'
  have RA1 := Lib.hid r2
  clear r0' r1' r2
  refine (lright_any 6 e1 e2 e3 e4 e5 e6 e7 e8 e9 w1 true ⟨fun _ => HR.out, fun _ => rfl⟩).mono ?_
  rintro r1 w2 ⟨rfl, bx⟩
  have h2 := h1.below bx
  have O2 : Hid (Only w w2 (Ow q gs gm G)) := Lib.hid (O1.out.tr (Only.of_below bx))
  have RS2 : Hid (w2.heap[Hs]? = some (.cells #[.int .i64 6, .int .i64 e1, .int .i64 e2, .int .i64 e3, .int .i64 e4, .int .i64 e5, .int .i64 e6, .int .i64 e7, .int .i64 e8, .int .i64 e9, .int .i64 4, .int .i64 a1, .int .i64 a2, .int .i64 a3, .slice sA sl sc] 34 (0, 0))) := Lib.hid (by rw [bx.block _ (lt_of_row RS1.out)]; exact RS1.out)
  have RE2 : Hid (w2.heap[(Hs + 1)]? = some (.cells #[.int .i64 6, .int .i64 e1, .int .i64 e2, .int .i64 e3, .int .i64 e4, .int .i64 e5, .int .i64 e6, .int .i64 e7, .int .i64 e8, .int .i64 e9] 26 (0, 0))) := Lib.hid (by rw [bx.block _ (lt_of_row RE1.out)]; exact RE1.out)
  have RA2 : Hid (w2.heap[(Hs + 1 + 1)]? = some (.cells #[.int .i64 4, .int .i64 a1, .int .i64 a2, .int .i64 a3] 31 (0, 0))) := Lib.hid (by rw [bx.block _ (lt_of_row RA1.out)]; exact RA1.out)
  clear h1 O1 RS1 RE1 RA1 bx
  have zA0 := (cellB RA2.out 0 _ rfl : w2.cell? ⟨(Hs + 1 + 1), 0, none⟩ = some (.int .i64 4))
  have zA1 := (cellB RA2.out 1 _ rfl : w2.cell? ⟨(Hs + 1 + 1), 1, none⟩ = some (.int .i64 a1))
  have zA2 := (cellB RA2.out 2 _ rfl : w2.cell? ⟨(Hs + 1 + 1), 2, none⟩ = some (.int .i64 a2))
  have zA3 := (cellB RA2.out 3 _ rfl : w2.cell? ⟨(Hs + 1 + 1), 3, none⟩ = some (.int .i64 a3))
  go_wp2_with fail
  clear zA0 zA1 zA2 zA3
  refine (RA.right_any 4 a1 a2 a3 w2 true ⟨fun _ => HA.out, fun _ => rfl⟩).mono ?_
  rintro r2 w3 ⟨rfl, bx⟩
  have h3 := h2.below bx
  have O3 : Hid (Only w w3 (Ow q gs gm G)) := Lib.hid (O2.out.tr (Only.of_below bx))
  have RS3 : Hid (w3.heap[Hs]? = some (.cells #[.int .i64 6, .int .i64 e1, .int .i64 e2, .int .i64 e3, .int .i64 e4, .int .i64 e5, .int .i64 e6, .int .i64 e7, .int .i64 e8, .int .i64 e9, .int .i64 4, .int .i64 a1, .int .i64 a2, .int .i64 a3, .slice sA sl sc] 34 (0, 0))) := Lib.hid (by rw [bx.block _ (lt_of_row RS2.out)]; exact RS2.out)
  have RE3 : Hid (w3.heap[(Hs + 1)]? = some (.cells #[.int .i64 6, .int .i64 e1, .int .i64 e2, .int .i64 e3, .int .i64 e4, .int .i64 e5, .int .i64 e6, .int .i64 e7, .int .i64 e8, .int .i64 e9] 26 (0, 0))) := Lib.hid (by rw [bx.block _ (lt_of_row RE2.out)]; exact RE2.out)
  have RA3 : Hid (w3.heap[(Hs + 1 + 1)]? = some (.cells #[.int .i64 4, .int .i64 a1, .int .i64 a2, .int .i64 a3] 31 (0, 0))) := Lib.hid (by rw [bx.block _ (lt_of_row RA2.out)]; exact RA2.out)
  clear h2 O2 RS2 RE2 RA2 bx
  have zA0 := (cellB RA3.out 0 _ rfl : w3.cell? ⟨(Hs + 1 + 1), 0, none⟩ = some (.int .i64 4))
  have zE0 := (cellB RE3.out 0 _ rfl : w3.cell? ⟨(Hs + 1), 0, none⟩ = some (.int .i64 6))
  have zE1 := (cellB RE3.out 1 _ rfl : w3.cell? ⟨(Hs + 1), 1, none⟩ = some (.int .i64 e1))
  go_wp2_with fail
  refine (l_find h3 (by omega) e1).mono ?_
  rintro r3 w4 ⟨r, rfl, hfd, bx⟩
  clear zA0 zE0 zE1 hfd
  have h4 := h3.below bx
  have O4 : Hid (Only w w4 (Ow q gs gm G)) := Lib.hid (O3.out.tr (Only.of_below bx))
  have RS4 : Hid (w4.heap[Hs]? = some (.cells #[.int .i64 6, .int .i64 e1, .int .i64 e2, .int .i64 e3, .int .i64 e4, .int .i64 e5, .int .i64 e6, .int .i64 e7, .int .i64 e8, .int .i64 e9, .int .i64 4, .int .i64 a1, .int .i64 a2, .int .i64 a3, .slice sA sl sc] 34 (0, 0))) := Lib.hid (by rw [bx.block _ (lt_of_row RS3.out)]; exact RS3.out)
  have RE4 : Hid (w4.heap[(Hs + 1)]? = some (.cells #[.int .i64 6, .int .i64 e1, .int .i64 e2, .int .i64 e3, .int .i64 e4, .int .i64 e5, .int .i64 e6, .int .i64 e7, .int .i64 e8, .int .i64 e9] 26 (0, 0))) := Lib.hid (by rw [bx.block _ (lt_of_row RE3.out)]; exact RE3.out)
  have RA4 : Hid (w4.heap[(Hs + 1 + 1)]? = some (.cells #[.int .i64 4, .int .i64 a1, .int .i64 a2, .int .i64 a3] 31 (0, 0))) := Lib.hid (by rw [bx.block _ (lt_of_row RA3.out)]; exact RA3.out)
  clear h3 O3 RS3 RE3 RA3 bx
  have zE0 := (cellB RE4.out 0 _ rfl : w4.cell? ⟨(Hs + 1), 0, none⟩ = some (.int .i64 6))
  have HG1 : Hid (∀ g, G = some g → G = some g ∨ w.heap.size ≤ g) := Lib.hid (fun g hg => Or.inl hg)
  have HO1 : Hid (∀ j, Ow q gs gm G j → j < Hs ∨ Hs + 1 + 1 < j) := Lib.hid (fun j t => Or.inl (HNN.out j t))
  have hst : stp W (⟨6, e1, e2, e3, e4, e5, e6, e7, e8, e9⟩, ⟨4, a1, a2, a3⟩, cs) = match cmds W cs with
      | none => none
      | some W2 => clo W2 ⟨6, e1, e2, e3, e4, e5, e6, e7, e8, e9⟩ ⟨4, a1, a2, a3⟩ cs := by
    rw [stp_go HR.out HA.out (by simp) (fun t => t.elim (fun t => t.1 rfl) (fun t => absurd (show (4 : Int) = 0 from t.2) (by decide))), hap_6 rfl]
    rfl
  have HSTN : Hid (cmds W cs = none → stp W (⟨6, e1, e2, e3, e4, e5, e6, e7, e8, e9⟩, ⟨4, a1, a2, a3⟩, cs) = none) := Lib.hid (fun t => by rw [hst, t])
  have HSTY : Hid (∀ {W2}, cmds W cs = some W2 → stp W (⟨6, e1, e2, e3, e4, e5, e6, e7, e8, e9⟩, ⟨4, a1, a2, a3⟩, cs) = clo W2 ⟨6, e1, e2, e3, e4, e5, e6, e7, e8, e9⟩ ⟨4, a1, a2, a3⟩ cs) := Lib.hid (fun t => by rw [hst, t])
  clear hst
  have hup := h4.up (M := N + 1) (by omega)
  clear h4
  have h4 := hup
  clear hup
  have zS14 := (cellB RS4.out 14 _ rfl : w4.cell? ⟨Hs, 14, none⟩ = some (.slice sA sl sc))
  go_wp2_with fail
  go_loopg [174] sl (fun gk v wr => ∃ (k : Nat) (W2 : Wd) (G2 : Option Nat), v = .int .i64 (k : Int) ∧ k + gk = sl ∧ Hid (Wl wr q gs gm G2 W2 (N + 1 + k)) ∧ Hid (Only w wr (Ow q gs gm G)) ∧ Hid (∀ g, G2 = some g → G = some g ∨ w.heap.size ≤ g) ∧ Hid (∀ j, Ow q gs gm G2 j → j < Hs ∨ Hs + 1 + 1 < j) ∧ Hid (cmds W cs = cmds W2 (cs.drop k)) ∧ Hid (wr.heap[Hs]? = some (.cells #[.int .i64 6, .int .i64 e1, .int .i64 e2, .int .i64 e3, .int .i64 e4, .int .i64 e5, .int .i64 e6, .int .i64 e7, .int .i64 e8, .int .i64 e9, .int .i64 4, .int .i64 a1, .int .i64 a2, .int .i64 a3, .slice sA sl sc] 34 (0, 0))) ∧ Hid (wr.heap[(Hs + 1)]? = some (.cells #[.int .i64 6, .int .i64 e1, .int .i64 e2, .int .i64 e3, .int .i64 e4, .int .i64 e5, .int .i64 e6, .int .i64 e7, .int .i64 e8, .int .i64 e9] 26 (0, 0))) ∧ Hid (wr.heap[(Hs + 1 + 1)]? = some (.cells #[.int .i64 4, .int .i64 a1, .int .i64 a2, .int .i64 a3] 31 (0, 0))))
  case atStart => exact ⟨0, _, _, rfl, by omega, Lib.hid h4, O4, HG1, HO1, rfl, RS4, RE4, RA4⟩
  case round =>
    clear h4 O4 HG1 HO1 zS14 RS4 RE4 RA4
    obtain ⟨j, W2, G2, rfl, hjs, HW, HO, HG2, HO2, HC, RSL, REL, RAL⟩ := hrel
    have HJ := Lib.hid hjs
    by_cases hj : j < sl
    · have hji : (j : Int) < (sl : Int) := by omega
      have hjc : j < cs.length := by rw [HCS.out]; exact hj
      obtain ⟨⟨bt, i, f, x⟩, hc⟩ : ∃ c, cs[j]? = some c := ⟨_, List.getElem?_eq_getElem hjc⟩
      have hcw := HCW.out _ (List.mem_of_getElem? hc)
      have hdr : cs.drop j = (bt, i, f, x) :: cs.drop (j + 1) := by
        rw [List.drop_eq_getElem_cons hjc]
        rw [List.getElem?_eq_getElem hjc] at hc
        injection hc with hc; rw [hc]
      have HC2 : Hid (cmds W cs = cmds W2 ((bt, i, f, x) :: cs.drop (j + 1))) := Lib.hid (by rw [HC.out, hdr])
      obtain ⟨ad, hA, hadb, y0, yy1, yy2, yy3⟩ := HCL.out.keep (w' := wr) (fun z hz => HO.out.block z (Nat.lt_of_lt_of_le hz HBS.out.1) (fun t => by have := HBS.out.2 z t; omega)) j _ hc
      dsimp only at y0 yy1 yy2 yy3
      have x1 := cell_in0 (by decide) yy1
      have x2 := cell_in0 (by decide) yy2
      have x3 := cell_in0 (by decide) yy3
      subst hA
      have h5 := HW.out.below ((Below.refl _ _).alloc (Nat.le_refl _) (.cells #[.bool bt, .int .i64 i, .int .i64 f, .int .i64 x] 38))
      have O5 := Lib.hid (HO.out.alloc (.cells #[.bool bt, .int .i64 i, .int .i64 f, .int .i64 x] 38))
      have hcm := l_cmd (c := (bt, i, f, x)) h5 (by omega) hcw
      have HCM := Lib.hid hcm
      have hws := HO.out.size
      have hwa : (wr.alloc (.cells #[.bool bt, .int .i64 i, .int .i64 f, .int .i64 x] 38)).heap.size = wr.heap.size + 1 := World.size_alloc _ _
      have HWA := Lib.hid hwa
      have RS5 : Hid ((wr.alloc (.cells #[.bool bt, .int .i64 i, .int .i64 f, .int .i64 x] 38)).heap[Hs]? = some (.cells #[.int .i64 6, .int .i64 e1, .int .i64 e2, .int .i64 e3, .int .i64 e4, .int .i64 e5, .int .i64 e6, .int .i64 e7, .int .i64 e8, .int .i64 e9, .int .i64 4, .int .i64 a1, .int .i64 a2, .int .i64 a3, .slice (some ad) sl sc] 34 (0, 0))) := Lib.hid (((Only.refl wr (fun _ => False)).alloc _).blk (fun t => t) RSL.out)
      have RE5 : Hid ((wr.alloc (.cells #[.bool bt, .int .i64 i, .int .i64 f, .int .i64 x] 38)).heap[(Hs + 1)]? = some (.cells #[.int .i64 6, .int .i64 e1, .int .i64 e2, .int .i64 e3, .int .i64 e4, .int .i64 e5, .int .i64 e6, .int .i64 e7, .int .i64 e8, .int .i64 e9] 26 (0, 0))) := Lib.hid (((Only.refl wr (fun _ => False)).alloc _).blk (fun t => t) REL.out)
      have RA5 : Hid ((wr.alloc (.cells #[.bool bt, .int .i64 i, .int .i64 f, .int .i64 x] 38)).heap[(Hs + 1 + 1)]? = some (.cells #[.int .i64 4, .int .i64 a1, .int .i64 a2, .int .i64 a3] 31 (0, 0))) := Lib.hid (((Only.refl wr (fun _ => False)).alloc _).blk (fun t => t) RAL.out)
      have HSZ : Hid (Hs + 1 + 1 < wr.heap.size) := Lib.hid (lt_of_row RAL.out)
      clear yy1 yy2 yy3 hdr hc hadb hcm hwa hjs HW HO h5 HC RSL REL RAL
      go_wp2_with fail
      refine HCM.out.mono ?_
      rintro e w6 ⟨o6, ⟨hr6, rfl⟩ | ⟨W3, G3, hr6, rfl, h6, hg6⟩⟩
      · have HN6 := Lib.hid hr6
        have O6 : Hid (Only w w6 (Ow q gs gm G)) := Lib.hid (O5.out.trans o6 (fun z t => by
          rcases t with t | t | t | t
          · exact Or.inl (Or.inl t)
          · exact Or.inl (Or.inr (Or.inl t))
          · exact Or.inl (Or.inr (Or.inr (Or.inl t)))
          · rcases HG2.out z t with t | t
            · exact Or.inl (Or.inr (Or.inr (Or.inr t)))
            · exact Or.inr t))
        clear o6 hr6
        go_wp2_with fail
        go_ret
        exact ⟨O6.out, Or.inl ⟨HSTN.out (by rw [HC2.out, cmds, HN6.out]), rfl⟩⟩
      · have HC3 : Hid (cmds W cs = cmds W3 (cs.drop (j + 1))) := Lib.hid (by rw [HC2.out, cmds, hr6])
        have O6 : Hid (Only w w6 (Ow q gs gm G)) := Lib.hid (O5.out.trans o6 (fun z t => by
          rcases t with t | t | t | t
          · exact Or.inl (Or.inl t)
          · exact Or.inl (Or.inr (Or.inl t))
          · exact Or.inl (Or.inr (Or.inr (Or.inl t)))
          · rcases HG2.out z t with t | t
            · exact Or.inl (Or.inr (Or.inr (Or.inr t)))
            · exact Or.inr t))
        have HG3 : Hid (∀ g, G3 = some g → G = some g ∨ w.heap.size ≤ g) := Lib.hid (fun g hg => by
          rcases hg6 g hg with t | t
          · exact HG2.out g t
          · right; have := HWA.out; omega)
        have HO3 : Hid (∀ z, Ow q gs gm G3 z → z < Hs ∨ Hs + 1 + 1 < z) := Lib.hid (fun z t => by
          rcases t with t | t | t | t
          · exact HO2.out z (Or.inl t)
          · exact HO2.out z (Or.inr (Or.inl t))
          · exact HO2.out z (Or.inr (Or.inr (Or.inl t)))
          · rcases hg6 z t with t | t
            · exact HO2.out z (Or.inr (Or.inr (Or.inr t)))
            · right; have := HWA.out; have := HSZ.out; omega)
        have H6 : Hid (Wl w6 q gs gm G3 W3 (N + 1 + (j + 1))) := Lib.hid h6
        have HSZ6 : Hid (Hs + 1 + 1 < w6.heap.size) := Lib.hid (by have := o6.size; have := HWA.out; have := HSZ.out; omega)
        have RS6 : Hid (w6.heap[Hs]? = some (.cells #[.int .i64 6, .int .i64 e1, .int .i64 e2, .int .i64 e3, .int .i64 e4, .int .i64 e5, .int .i64 e6, .int .i64 e7, .int .i64 e8, .int .i64 e9, .int .i64 4, .int .i64 a1, .int .i64 a2, .int .i64 a3, .slice (some ad) sl sc] 34 (0, 0))) := Lib.hid (o6.blk (fun t => by have := HO2.out _ t; omega) RS5.out)
        have RE6 : Hid (w6.heap[(Hs + 1)]? = some (.cells #[.int .i64 6, .int .i64 e1, .int .i64 e2, .int .i64 e3, .int .i64 e4, .int .i64 e5, .int .i64 e6, .int .i64 e7, .int .i64 e8, .int .i64 e9] 26 (0, 0))) := Lib.hid (o6.blk (fun t => by have := HO2.out _ t; omega) RE5.out)
        have RA6 : Hid (w6.heap[(Hs + 1 + 1)]? = some (.cells #[.int .i64 4, .int .i64 a1, .int .i64 a2, .int .i64 a3] 31 (0, 0))) := Lib.hid (o6.blk (fun t => by have := HO2.out _ t; omega) RA5.out)
        clear hr6 o6 h6 hg6 RS5 RE5 RA5
        go_wp2_with fail
        go_roundg (sl - j - 1)
        case measure => have := HJ.out; omega
        case rel => exact ⟨j + 1, W3, G3, by go_num, by have := HJ.out; omega, H6, O6, HG3, HO3, HC3, RS6, RE6, RA6⟩
    · obtain rfl : j = sl := by omega
      have hd : decide ((j : Int) < (j : Int)) = false := by simp
      have hdr : cs.drop j = [] := List.drop_eq_nil_of_le (by rw [HCS.out]; exact Nat.le_refl _)
      have HCF : Hid (cmds W cs = some W2) := Lib.hid (by rw [HC.out, hdr]; rfl)
      clear hdr hj hjs
      have HNIL : Hid (cs = [] ↔ j = 0) := Lib.hid (by rw [← HCS.out]; exact List.length_eq_zero_iff.symm)
      have zA := (cellB RAL.out 0 _ rfl : wr.cell? ⟨(Hs + 1 + 1), 0, none⟩ = some (.int .i64 4))
      have zS := (cellB RSL.out 14 _ rfl : wr.cell? ⟨Hs, 14, none⟩ = some (.slice sA j sc))
      rcases Nat.eq_zero_or_pos j with hz | hz
      · have HCL : Hid (stp W (⟨6, e1, e2, e3, e4, e5, e6, e7, e8, e9⟩, ⟨4, a1, a2, a3⟩, cs) = some W2) := Lib.hid (by rw [HSTY.out HCF.out]; unfold clo; rw [if_neg (by simp), if_pos rfl, if_pos (HNIL.out.2 hz)])
        subst hz
        go_wp2_with fail
        go_ret
        exact ⟨HO.out, Or.inr ⟨W2, G2, HCL.out, rfl, HW.out.up (by omega), HG2.out⟩⟩
      · have HCL : Hid (stp W (⟨6, e1, e2, e3, e4, e5, e6, e7, e8, e9⟩, ⟨4, a1, a2, a3⟩, cs) = none) := Lib.hid (by rw [HSTY.out HCF.out]; unfold clo; rw [if_neg (by simp), if_pos rfl, if_neg (fun t => by have := HNIL.out.1 t; omega)])
        have hz2 : ((j : Int) == 0) = false := beq_false_of_ne (by omega)
        go_wp2_with fail
        go_ret
        exact ⟨HO.out, Or.inl ⟨HCL.out, rfl⟩⟩
end Go.Proofs.Ytgpookphacdgoaa.W.U
