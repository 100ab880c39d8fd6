/- Package audit's law: a step, by the event's kind. Made by mk_auy.py. -/
import Derived.Test.YtgpookphacdgoaaAuYh
import Derived.Deep.LoopGhost
namespace Go.Proofs.Ytgpookphacdgoaa.W.U
open Go.RowKit Go.Maps Go.ChangeMaps Go.MapKept Go.Proofs.Ytgpookphacdgoaa.W

set_option maxRecDepth 100000 in
set_option maxHeartbeats 3200000 in
theorem l_step62 {w : World} {q gs gm : Nat} {G : Option Nat} {W : Wd} {N : Nat} (h : Wl w q gs gm G W N) {e1 e2 e3 e4 e5 e6 e7 e8 e9 a1 a2 a3 : Int} {sA : Option Addr} {sl sc : Nat} {B : Nat} {cs : List Cmd} (hcs : cs.length = sl) (hcl : CL w B sA cs) (hcw : ∀ c ∈ cs, cwf c) (hB : B ≤ w.heap.size ∧ ∀ j, Ow q gs gm G j → B ≤ j) (hN : N + 2 * sl + 2 < 1048570) (hr : right ⟨6, e1, e2, e3, e4, e5, e6, e7, e8, e9⟩) (ha : okA ⟨2, a1, a2, a3⟩) : Calls Try.prog 10 #[ptr q, .agg #[.int .i64 6, .int .i64 e1, .int .i64 e2, .int .i64 e3, .int .i64 e4, .int .i64 e5, .int .i64 e6, .int .i64 e7, .int .i64 e8, .int .i64 e9, .int .i64 2, .int .i64 a1, .int .i64 a2, .int .i64 a3, .slice sA sl sc]] w (Lr w q gs gm G (N + 2 * sl + 2) (stp W (⟨6, e1, e2, e3, e4, e5, e6, e7, e8, e9⟩, ⟨2, a1, a2, a3⟩, cs))) := by
  have HR := Lib.hid hr
  have HA := Lib.hid ha
  have HCS := Lib.hid hcs
  have HCL := Lib.hid hcl
  have HCW := Lib.hid hcw
  have HBS := Lib.hid hB
  have hsl : sl ≤ 1048570 := by omega
  clear hcs hcl hcw hB
  go_enter Try.func10, Try.ntmps10
  go_wp2_with fail
  have r0 := heap_alloc_new w (.cells #[.int .i64 6, .int .i64 e1, .int .i64 e2, .int .i64 e3, .int .i64 e4, .int .i64 e5, .int .i64 e6, .int .i64 e7, .int .i64 e8, .int .i64 e9, .int .i64 2, .int .i64 a1, .int .i64 a2, .int .i64 a3, .slice sA sl sc] 34)
  have r1 := heap_alloc_new (w.alloc (.cells #[.int .i64 6, .int .i64 e1, .int .i64 e2, .int .i64 e3, .int .i64 e4, .int .i64 e5, .int .i64 e6, .int .i64 e7, .int .i64 e8, .int .i64 e9, .int .i64 2, .int .i64 a1, .int .i64 a2, .int .i64 a3, .slice sA sl sc] 34)) (.cells #[.int .i64 6, .int .i64 e1, .int .i64 e2, .int .i64 e3, .int .i64 e4, .int .i64 e5, .int .i64 e6, .int .i64 e7, .int .i64 e8, .int .i64 e9] 26)
  have r2 := heap_alloc_new ((w.alloc (.cells #[.int .i64 6, .int .i64 e1, .int .i64 e2, .int .i64 e3, .int .i64 e4, .int .i64 e5, .int .i64 e6, .int .i64 e7, .int .i64 e8, .int .i64 e9, .int .i64 2, .int .i64 a1, .int .i64 a2, .int .i64 a3, .slice sA sl sc] 34)).alloc (.cells #[.int .i64 6, .int .i64 e1, .int .i64 e2, .int .i64 e3, .int .i64 e4, .int .i64 e5, .int .i64 e6, .int .i64 e7, .int .i64 e8, .int .i64 e9] 26)) (.cells #[.int .i64 2, .int .i64 a1, .int .i64 a2, .int .i64 a3] 31)
  have k1 := (Only.refl (w.alloc (.cells #[.int .i64 6, .int .i64 e1, .int .i64 e2, .int .i64 e3, .int .i64 e4, .int .i64 e5, .int .i64 e6, .int .i64 e7, .int .i64 e8, .int .i64 e9, .int .i64 2, .int .i64 a1, .int .i64 a2, .int .i64 a3, .slice sA sl sc] 34)) (fun _ => False)).alloc (.cells #[.int .i64 6, .int .i64 e1, .int .i64 e2, .int .i64 e3, .int .i64 e4, .int .i64 e5, .int .i64 e6, .int .i64 e7, .int .i64 e8, .int .i64 e9] 26)
  have k2 := (Only.refl ((w.alloc (.cells #[.int .i64 6, .int .i64 e1, .int .i64 e2, .int .i64 e3, .int .i64 e4, .int .i64 e5, .int .i64 e6, .int .i64 e7, .int .i64 e8, .int .i64 e9, .int .i64 2, .int .i64 a1, .int .i64 a2, .int .i64 a3, .slice sA sl sc] 34)).alloc (.cells #[.int .i64 6, .int .i64 e1, .int .i64 e2, .int .i64 e3, .int .i64 e4, .int .i64 e5, .int .i64 e6, .int .i64 e7, .int .i64 e8, .int .i64 e9] 26)) (fun _ => False)).alloc (.cells #[.int .i64 2, .int .i64 a1, .int .i64 a2, .int .i64 a3] 31)
  have r0' := k2.blk (fun t => t) (k1.blk (fun t => t) r0)
  have r1' := k2.blk (fun t => t) r1
  rw [World.size_alloc] at r1'
  rw [World.size_alloc, World.size_alloc] at r2
  have bb := ((((Below.refl w.heap.size w).alloc (Nat.le_refl _) (.cells #[.int .i64 6, .int .i64 e1, .int .i64 e2, .int .i64 e3, .int .i64 e4, .int .i64 e5, .int .i64 e6, .int .i64 e7, .int .i64 e8, .int .i64 e9, .int .i64 2, .int .i64 a1, .int .i64 a2, .int .i64 a3, .slice sA sl sc] 34))).alloc (by rw [World.size_alloc]; omega) (.cells #[.int .i64 6, .int .i64 e1, .int .i64 e2, .int .i64 e3, .int .i64 e4, .int .i64 e5, .int .i64 e6, .int .i64 e7, .int .i64 e8, .int .i64 e9] 26)).alloc (by rw [World.size_alloc, World.size_alloc]; omega) (.cells #[.int .i64 2, .int .i64 a1, .int .i64 a2, .int .i64 a3] 31)
  have h1 := h.below bb
  have O1 := Lib.hid (Only.of_below (S := Ow q gs gm G) bb)
  have hnn : ∀ j, Ow q gs gm G j → j < w.heap.size := fun j t => h.lt t
  obtain ⟨Hs, hHs⟩ : ∃ z, w.heap.size = z := ⟨_, rfl⟩
  have HLE : Hid (w.heap.size ≤ Hs) := Lib.hid (by omega)
  rw [hHs] at r0' r1' r2 hnn
  try rw [hHs]
  have HNN := Lib.hid hnn
  clear hHs bb r0 r1 k1 k2 h hnn
  generalize ((w.alloc (.cells #[.int .i64 6, .int .i64 e1, .int .i64 e2, .int .i64 e3, .int .i64 e4, .int .i64 e5, .int .i64 e6, .int .i64 e7, .int .i64 e8, .int .i64 e9, .int .i64 2, .int .i64 a1, .int .i64 a2, .int .i64 a3, .slice sA sl sc] 34)).alloc (.cells #[.int .i64 6, .int .i64 e1, .int .i64 e2, .int .i64 e3, .int .i64 e4, .int .i64 e5, .int .i64 e6, .int .i64 e7, .int .i64 e8, .int .i64 e9] 26)).alloc (.cells #[.int .i64 2, .int .i64 a1, .int .i64 a2, .int .i64 a3] 31) = w1 at r0' r1' r2 h1 O1 ⊢
  have RS1 := Lib.hid r0'
  have RE1 := Lib.hid r1'
  have RA1 := Lib.hid r2
  clear r0' r1' r2
  refine (lright_any 6 e1 e2 e3 e4 e5 e6 e7 e8 e9 w1 true ⟨fun _ => HR.out, fun _ => rfl⟩).mono ?_
  rintro r1 w2 ⟨rfl, bx⟩
  have h2 := h1.below bx
  have O2 : Hid (Only w w2 (Ow q gs gm G)) := Lib.hid (O1.out.tr (Only.of_below bx))
  have RS2 : Hid (w2.heap[Hs]? = some (.cells #[.int .i64 6, .int .i64 e1, .int .i64 e2, .int .i64 e3, .int .i64 e4, .int .i64 e5, .int .i64 e6, .int .i64 e7, .int .i64 e8, .int .i64 e9, .int .i64 2, .int .i64 a1, .int .i64 a2, .int .i64 a3, .slice sA sl sc] 34 (0, 0))) := Lib.hid (by rw [bx.block _ (lt_of_row RS1.out)]; exact RS1.out)
  have RE2 : Hid (w2.heap[(Hs + 1)]? = some (.cells #[.int .i64 6, .int .i64 e1, .int .i64 e2, .int .i64 e3, .int .i64 e4, .int .i64 e5, .int .i64 e6, .int .i64 e7, .int .i64 e8, .int .i64 e9] 26 (0, 0))) := Lib.hid (by rw [bx.block _ (lt_of_row RE1.out)]; exact RE1.out)
  have RA2 : Hid (w2.heap[(Hs + 1 + 1)]? = some (.cells #[.int .i64 2, .int .i64 a1, .int .i64 a2, .int .i64 a3] 31 (0, 0))) := Lib.hid (by rw [bx.block _ (lt_of_row RA1.out)]; exact RA1.out)
  clear h1 O1 RS1 RE1 RA1 bx
  have zA0 := (cellB RA2.out 0 _ rfl : w2.cell? ⟨(Hs + 1 + 1), 0, none⟩ = some (.int .i64 2))
  have zA1 := (cellB RA2.out 1 _ rfl : w2.cell? ⟨(Hs + 1 + 1), 1, none⟩ = some (.int .i64 a1))
  have zA2 := (cellB RA2.out 2 _ rfl : w2.cell? ⟨(Hs + 1 + 1), 2, none⟩ = some (.int .i64 a2))
  have zA3 := (cellB RA2.out 3 _ rfl : w2.cell? ⟨(Hs + 1 + 1), 3, none⟩ = some (.int .i64 a3))
  go_wp2_with fail
  clear zA0 zA1 zA2 zA3
  refine (RA.right_any 2 a1 a2 a3 w2 true ⟨fun _ => HA.out, fun _ => rfl⟩).mono ?_
  rintro r2 w3 ⟨rfl, bx⟩
  have h3 := h2.below bx
  have O3 : Hid (Only w w3 (Ow q gs gm G)) := Lib.hid (O2.out.tr (Only.of_below bx))
  have RS3 : Hid (w3.heap[Hs]? = some (.cells #[.int .i64 6, .int .i64 e1, .int .i64 e2, .int .i64 e3, .int .i64 e4, .int .i64 e5, .int .i64 e6, .int .i64 e7, .int .i64 e8, .int .i64 e9, .int .i64 2, .int .i64 a1, .int .i64 a2, .int .i64 a3, .slice sA sl sc] 34 (0, 0))) := Lib.hid (by rw [bx.block _ (lt_of_row RS2.out)]; exact RS2.out)
  have RE3 : Hid (w3.heap[(Hs + 1)]? = some (.cells #[.int .i64 6, .int .i64 e1, .int .i64 e2, .int .i64 e3, .int .i64 e4, .int .i64 e5, .int .i64 e6, .int .i64 e7, .int .i64 e8, .int .i64 e9] 26 (0, 0))) := Lib.hid (by rw [bx.block _ (lt_of_row RE2.out)]; exact RE2.out)
  have RA3 : Hid (w3.heap[(Hs + 1 + 1)]? = some (.cells #[.int .i64 2, .int .i64 a1, .int .i64 a2, .int .i64 a3] 31 (0, 0))) := Lib.hid (by rw [bx.block _ (lt_of_row RA2.out)]; exact RA2.out)
  clear h2 O2 RS2 RE2 RA2 bx
  have zA0 := (cellB RA3.out 0 _ rfl : w3.cell? ⟨(Hs + 1 + 1), 0, none⟩ = some (.int .i64 2))
  have zE0 := (cellB RE3.out 0 _ rfl : w3.cell? ⟨(Hs + 1), 0, none⟩ = some (.int .i64 6))
  have zE1 := (cellB RE3.out 1 _ rfl : w3.cell? ⟨(Hs + 1), 1, none⟩ = some (.int .i64 e1))
  go_wp2_with fail
  refine (l_find h3 (by omega) e1).mono ?_
  rintro r3 w4 ⟨r, rfl, hfd, bx⟩
  clear zA0 zE0 zE1 hfd
  have h4 := h3.below bx
  have O4 : Hid (Only w w4 (Ow q gs gm G)) := Lib.hid (O3.out.tr (Only.of_below bx))
  have RS4 : Hid (w4.heap[Hs]? = some (.cells #[.int .i64 6, .int .i64 e1, .int .i64 e2, .int .i64 e3, .int .i64 e4, .int .i64 e5, .int .i64 e6, .int .i64 e7, .int .i64 e8, .int .i64 e9, .int .i64 2, .int .i64 a1, .int .i64 a2, .int .i64 a3, .slice sA sl sc] 34 (0, 0))) := Lib.hid (by rw [bx.block _ (lt_of_row RS3.out)]; exact RS3.out)
  have RE4 : Hid (w4.heap[(Hs + 1)]? = some (.cells #[.int .i64 6, .int .i64 e1, .int .i64 e2, .int .i64 e3, .int .i64 e4, .int .i64 e5, .int .i64 e6, .int .i64 e7, .int .i64 e8, .int .i64 e9] 26 (0, 0))) := Lib.hid (by rw [bx.block _ (lt_of_row RE3.out)]; exact RE3.out)
  have RA4 : Hid (w4.heap[(Hs + 1 + 1)]? = some (.cells #[.int .i64 2, .int .i64 a1, .int .i64 a2, .int .i64 a3] 31 (0, 0))) := Lib.hid (by rw [bx.block _ (lt_of_row RA3.out)]; exact RA3.out)
  clear h3 O3 RS3 RE3 RA3 bx
  have zE0 := (cellB RE4.out 0 _ rfl : w4.cell? ⟨(Hs + 1), 0, none⟩ = some (.int .i64 6))
  have HG1 : Hid (∀ g, G = some g → G = some g ∨ w.heap.size ≤ g) := Lib.hid (fun g hg => Or.inl hg)
  have HO1 : Hid (∀ j, Ow q gs gm G j → j < Hs ∨ Hs + 1 + 1 < j) := Lib.hid (fun j t => Or.inl (HNN.out j t))
  have hst : stp W (⟨6, e1, e2, e3, e4, e5, e6, e7, e8, e9⟩, ⟨2, a1, a2, a3⟩, cs) = match cmds W cs with
      | none => none
      | some W2 => clo W2 ⟨6, e1, e2, e3, e4, e5, e6, e7, e8, e9⟩ ⟨2, a1, a2, a3⟩ cs := by
    rw [stp_go HR.out HA.out (by simp) (fun t => t.elim (fun t => t.1 rfl) (fun t => absurd (show (2 : Int) = 0 from t.2) (by decide))), hap_6 rfl]
    rfl
  have HSTN : Hid (cmds W cs = none → stp W (⟨6, e1, e2, e3, e4, e5, e6, e7, e8, e9⟩, ⟨2, a1, a2, a3⟩, cs) = none) := Lib.hid (fun t => by rw [hst, t])
  have HSTY : Hid (∀ {W2}, cmds W cs = some W2 → stp W (⟨6, e1, e2, e3, e4, e5, e6, e7, e8, e9⟩, ⟨2, a1, a2, a3⟩, cs) = clo W2 ⟨6, e1, e2, e3, e4, e5, e6, e7, e8, e9⟩ ⟨2, a1, a2, a3⟩ cs) := Lib.hid (fun t => by rw [hst, t])
  clear hst
  have hup := h4.up (M := N + 1) (by omega)
  clear h4
  have h4 := hup
  clear hup
  have zS14 := (cellB RS4.out 14 _ rfl : w4.cell? ⟨Hs, 14, none⟩ = some (.slice sA sl sc))
  go_wp2_with fail
  go_loopg [174] sl (fun gk v wr => ∃ (k : Nat) (W2 : Wd) (G2 : Option Nat), v = .int .i64 (k : Int) ∧ k + gk = sl ∧ Hid (Wl wr q gs gm G2 W2 (N + 1 + k)) ∧ Hid (Only w wr (Ow q gs gm G)) ∧ Hid (∀ g, G2 = some g → G = some g ∨ w.heap.size ≤ g) ∧ Hid (∀ j, Ow q gs gm G2 j → j < Hs ∨ Hs + 1 + 1 < j) ∧ Hid (cmds W cs = cmds W2 (cs.drop k)) ∧ Hid (wr.heap[Hs]? = some (.cells #[.int .i64 6, .int .i64 e1, .int .i64 e2, .int .i64 e3, .int .i64 e4, .int .i64 e5, .int .i64 e6, .int .i64 e7, .int .i64 e8, .int .i64 e9, .int .i64 2, .int .i64 a1, .int .i64 a2, .int .i64 a3, .slice sA sl sc] 34 (0, 0))) ∧ Hid (wr.heap[(Hs + 1)]? = some (.cells #[.int .i64 6, .int .i64 e1, .int .i64 e2, .int .i64 e3, .int .i64 e4, .int .i64 e5, .int .i64 e6, .int .i64 e7, .int .i64 e8, .int .i64 e9] 26 (0, 0))) ∧ Hid (wr.heap[(Hs + 1 + 1)]? = some (.cells #[.int .i64 2, .int .i64 a1, .int .i64 a2, .int .i64 a3] 31 (0, 0))))
  case atStart => exact ⟨0, _, _, rfl, by omega, Lib.hid h4, O4, HG1, HO1, rfl, RS4, RE4, RA4⟩
  case round =>
    clear h4 O4 HG1 HO1 zS14 RS4 RE4 RA4
    obtain ⟨j, W2, G2, rfl, hjs, HW, HO, HG2, HO2, HC, RSL, REL, RAL⟩ := hrel
    have HJ := Lib.hid hjs
    by_cases hj : j < sl
    · have hji : (j : Int) < (sl : Int) := by omega
      have hjc : j < cs.length := by rw [HCS.out]; exact hj
      obtain ⟨⟨bt, i, f, x⟩, hc⟩ : ∃ c, cs[j]? = some c := ⟨_, List.getElem?_eq_getElem hjc⟩
      have hcw := HCW.out _ (List.mem_of_getElem? hc)
      have hdr : cs.drop j = (bt, i, f, x) :: cs.drop (j + 1) := by
        rw [List.drop_eq_getElem_cons hjc]
        rw [List.getElem?_eq_getElem hjc] at hc
        injection hc with hc; rw [hc]
      have HC2 : Hid (cmds W cs = cmds W2 ((bt, i, f, x) :: cs.drop (j + 1))) := Lib.hid (by rw [HC.out, hdr])
      obtain ⟨ad, hA, hadb, y0, yy1, yy2, yy3⟩ := HCL.out.keep (w' := wr) (fun z hz => HO.out.block z (Nat.lt_of_lt_of_le hz HBS.out.1) (fun t => by have := HBS.out.2 z t; omega)) j _ hc
      dsimp only at y0 yy1 yy2 yy3
      have x1 := cell_in0 (by decide) yy1
      have x2 := cell_in0 (by decide) yy2
      have x3 := cell_in0 (by decide) yy3
      subst hA
      have h5 := HW.out.below ((Below.refl _ _).alloc (Nat.le_refl _) (.cells #[.bool bt, .int .i64 i, .int .i64 f, .int .i64 x] 38))
      have O5 := Lib.hid (HO.out.alloc (.cells #[.bool bt, .int .i64 i, .int .i64 f, .int .i64 x] 38))
      have hcm := l_cmd (c := (bt, i, f, x)) h5 (by omega) hcw
      have HCM := Lib.hid hcm
      have hws := HO.out.size
      have hwa : (wr.alloc (.cells #[.bool bt, .int .i64 i, .int .i64 f, .int .i64 x] 38)).heap.size = wr.heap.size + 1 := World.size_alloc _ _
      have HWA := Lib.hid hwa
      have RS5 : Hid ((wr.alloc (.cells #[.bool bt, .int .i64 i, .int .i64 f, .int .i64 x] 38)).heap[Hs]? = some (.cells #[.int .i64 6, .int .i64 e1, .int .i64 e2, .int .i64 e3, .int .i64 e4, .int .i64 e5, .int .i64 e6, .int .i64 e7, .int .i64 e8, .int .i64 e9, .int .i64 2, .int .i64 a1, .int .i64 a2, .int .i64 a3, .slice (some ad) sl sc] 34 (0, 0))) := Lib.hid (((Only.refl wr (fun _ => False)).alloc _).blk (fun t => t) RSL.out)
      have RE5 : Hid ((wr.alloc (.cells #[.bool bt, .int .i64 i, .int .i64 f, .int .i64 x] 38)).heap[(Hs + 1)]? = some (.cells #[.int .i64 6, .int .i64 e1, .int .i64 e2, .int .i64 e3, .int .i64 e4, .int .i64 e5, .int .i64 e6, .int .i64 e7, .int .i64 e8, .int .i64 e9] 26 (0, 0))) := Lib.hid (((Only.refl wr (fun _ => False)).alloc _).blk (fun t => t) REL.out)
      have RA5 : Hid ((wr.alloc (.cells #[.bool bt, .int .i64 i, .int .i64 f, .int .i64 x] 38)).heap[(Hs + 1 + 1)]? = some (.cells #[.int .i64 2, .int .i64 a1, .int .i64 a2, .int .i64 a3] 31 (0, 0))) := Lib.hid (((Only.refl wr (fun _ => False)).alloc _).blk (fun t => t) RAL.out)
      have HSZ : Hid (Hs + 1 + 1 < wr.heap.size) := Lib.hid (lt_of_row RAL.out)
      clear yy1 yy2 yy3 hdr hc hadb hcm hwa hjs HW HO h5 HC RSL REL RAL
      go_wp2_with fail
      refine HCM.out.mono ?_
      rintro e w6 ⟨o6, ⟨hr6, rfl⟩ | ⟨W3, G3, hr6, rfl, h6, hg6⟩⟩
      · have HN6 := Lib.hid hr6
        have O6 : Hid (Only w w6 (Ow q gs gm G)) := Lib.hid (O5.out.trans o6 (fun z t => by
          rcases t with t | t | t | t
          · exact Or.inl (Or.inl t)
          · exact Or.inl (Or.inr (Or.inl t))
          · exact Or.inl (Or.inr (Or.inr (Or.inl t)))
          · rcases HG2.out z t with t | t
            · exact Or.inl (Or.inr (Or.inr (Or.inr t)))
            · exact Or.inr t))
        clear o6 hr6
        go_wp2_with fail
        go_ret
        exact ⟨O6.out, Or.inl ⟨HSTN.out (by rw [HC2.out, cmds, HN6.out]), rfl⟩⟩
      · have HC3 : Hid (cmds W cs = cmds W3 (cs.drop (j + 1))) := Lib.hid (by rw [HC2.out, cmds, hr6])
        have O6 : Hid (Only w w6 (Ow q gs gm G)) := Lib.hid (O5.out.trans o6 (fun z t => by
          rcases t with t | t | t | t
          · exact Or.inl (Or.inl t)
          · exact Or.inl (Or.inr (Or.inl t))
          · exact Or.inl (Or.inr (Or.inr (Or.inl t)))
          · rcases HG2.out z t with t | t
            · exact Or.inl (Or.inr (Or.inr (Or.inr t)))
            · exact Or.inr t))
        have HG3 : Hid (∀ g, G3 = some g → G = some g ∨ w.heap.size ≤ g) := Lib.hid (fun g hg => by
          rcases hg6 g hg with t | t
          · exact HG2.out g t
          · right; have := HWA.out; omega)
        have HO3 : Hid (∀ z, Ow q gs gm G3 z → z < Hs ∨ Hs + 1 + 1 < z) := Lib.hid (fun z t => by
          rcases t with t | t | t | t
          · exact HO2.out z (Or.inl t)
          · exact HO2.out z (Or.inr (Or.inl t))
          · exact HO2.out z (Or.inr (Or.inr (Or.inl t)))
          · rcases hg6 z t with t | t
            · exact HO2.out z (Or.inr (Or.inr (Or.inr t)))
            · right; have := HWA.out; have := HSZ.out; omega)
        have H6 : Hid (Wl w6 q gs gm G3 W3 (N + 1 + (j + 1))) := Lib.hid h6
        have HSZ6 : Hid (Hs + 1 + 1 < w6.heap.size) := Lib.hid (by have := o6.size; have := HWA.out; have := HSZ.out; omega)
        have RS6 : Hid (w6.heap[Hs]? = some (.cells #[.int .i64 6, .int .i64 e1, .int .i64 e2, .int .i64 e3, .int .i64 e4, .int .i64 e5, .int .i64 e6, .int .i64 e7, .int .i64 e8, .int .i64 e9, .int .i64 2, .int .i64 a1, .int .i64 a2, .int .i64 a3, .slice (some ad) sl sc] 34 (0, 0))) := Lib.hid (o6.blk (fun t => by have := HO2.out _ t; omega) RS5.out)
        have RE6 : Hid (w6.heap[(Hs + 1)]? = some (.cells #[.int .i64 6, .int .i64 e1, .int .i64 e2, .int .i64 e3, .int .i64 e4, .int .i64 e5, .int .i64 e6, .int .i64 e7, .int .i64 e8, .int .i64 e9] 26 (0, 0))) := Lib.hid (o6.blk (fun t => by have := HO2.out _ t; omega) RE5.out)
        have RA6 : Hid (w6.heap[(Hs + 1 + 1)]? = some (.cells #[.int .i64 2, .int .i64 a1, .int .i64 a2, .int .i64 a3] 31 (0, 0))) := Lib.hid (o6.blk (fun t => by have := HO2.out _ t; omega) RA5.out)
        clear hr6 o6 h6 hg6 RS5 RE5 RA5
        go_wp2_with fail
        go_roundg (sl - j - 1)
        case measure => have := HJ.out; omega
        case rel => exact ⟨j + 1, W3, G3, by go_num, by have := HJ.out; omega, H6, O6, HG3, HO3, HC3, RS6, RE6, RA6⟩
    · obtain rfl : j = sl := by omega
      have hd : decide ((j : Int) < (j : Int)) = false := by simp
      have hdr : cs.drop j = [] := List.drop_eq_nil_of_le (by rw [HCS.out]; exact Nat.le_refl _)
      have HCF : Hid (cmds W cs = some W2) := Lib.hid (by rw [HC.out, hdr]; rfl)
      clear hdr hj hjs
      have HNIL : Hid (cs = [] ↔ j = 0) := Lib.hid (by rw [← HCS.out]; exact List.length_eq_zero_iff.symm)
      have zA := (cellB RAL.out 0 _ rfl : wr.cell? ⟨(Hs + 1 + 1), 0, none⟩ = some (.int .i64 2))
      have zA1 := (cellB RAL.out 1 _ rfl : wr.cell? ⟨(Hs + 1 + 1), 1, none⟩ = some (.int .i64 a1))
      go_wp2_with fail
      clear zA zA1
      refine (l_find HW.out (by omega) a1).mono ?_
      rintro r8 w8 ⟨r', rfl, hfd, bx⟩
      have h8 := HW.out.below bx
      have O8 : Hid (Only w w8 (Ow q gs gm G)) := Lib.hid (HO.out.tr (Only.of_below bx))
      have RS8 : Hid (w8.heap[Hs]? = some (.cells #[.int .i64 6, .int .i64 e1, .int .i64 e2, .int .i64 e3, .int .i64 e4, .int .i64 e5, .int .i64 e6, .int .i64 e7, .int .i64 e8, .int .i64 e9, .int .i64 2, .int .i64 a1, .int .i64 a2, .int .i64 a3, .slice sA j sc] 34 (0, 0))) := Lib.hid (by rw [bx.block _ (lt_of_row RSL.out)]; exact RSL.out)
      have RE8 : Hid (w8.heap[(Hs + 1)]? = some (.cells #[.int .i64 6, .int .i64 e1, .int .i64 e2, .int .i64 e3, .int .i64 e4, .int .i64 e5, .int .i64 e6, .int .i64 e7, .int .i64 e8, .int .i64 e9] 26 (0, 0))) := Lib.hid (by rw [bx.block _ (lt_of_row REL.out)]; exact REL.out)
      have RA8 : Hid (w8.heap[(Hs + 1 + 1)]? = some (.cells #[.int .i64 2, .int .i64 a1, .int .i64 a2, .int .i64 a3] 31 (0, 0))) := Lib.hid (by rw [bx.block _ (lt_of_row RAL.out)]; exact RAL.out)
      have z1 := (cellB RE8.out 1 _ rfl : w8.cell? ⟨(Hs + 1), 1, none⟩ = some (.int .i64 e1))
      clear HW HO RSL REL RAL bx
      rcases hfd with ⟨rfl, hno⟩ | ⟨k, b, rfl, ha⟩
      · have HCL : Hid (stp W (⟨6, e1, e2, e3, e4, e5, e6, e7, e8, e9⟩, ⟨2, a1, a2, a3⟩, cs) = none) := Lib.hid (by rw [HSTY.out HCF.out]; exact clo_bad rfl (show (2 : Int) ≠ 4 by decide) (Or.inl hno))
        clear hno
        go_wp2_with fail
        go_quiet (fail)
        have O9 := O8.out.drewN nq
        generalize w8.drewN nq = w9 at O9 ⊢
        clear h8 z1 O8 RS8 RE8 RA8
        go_wp2
        go_ret
        exact ⟨O9, Or.inl ⟨HCL.out, rfl⟩⟩
      · obtain ⟨bi, bf, bh, bb, bu⟩ := b
        have hf := ha.all.1
        obtain ⟨ad, cap, g0, hAd, hG, y0, hkl, y1, y2, y3, y4, y5⟩ := h8.item ha.1
        have hki : (k : Int) < (W2.L.length : Int) := by omega
        obtain ⟨n, hn⟩ : ∃ n, W2.L.length = n := ⟨_, rfl⟩
        rw [hn] at y0 hkl hki
        have hk0 : decide ((k : Int) < 0) = false := dec_f (by omega)
        have HA1 := Lib.hid ha
        have HAD := Lib.hid hAd
        have HGG := Lib.hid hG
        have HF := Lib.hid hf
        clear hn hAd hG ha hf
        cases bu with
        | true =>
          have HCL : Hid (stp W (⟨6, e1, e2, e3, e4, e5, e6, e7, e8, e9⟩, ⟨2, a1, a2, a3⟩, cs) = none) := Lib.hid (by rw [HSTY.out HCF.out]; exact clo_bad rfl (show (2 : Int) ≠ 4 by decide) (Or.inr ⟨_, HF.out, Or.inl rfl⟩))
          go_wp2_with fail
          go_quiet (fail)
          have O9 := O8.out.drewN nq
          generalize w8.drewN nq = w9 at O9 ⊢
          clear h8 z1 O8 RS8 RE8 RA8 y0 y1 y2 y3 y4 y5
          go_wp2
          go_ret
          exact ⟨O9, Or.inl ⟨HCL.out, rfl⟩⟩
        | false =>
          by_cases hfn : bf = e1
          · skip
            subst hfn
            go_wp2_with fail
            go_quiet (fail)
            have O9 : Hid (Only w (w8.drewN nq) (Ow q gs gm G)) := Lib.hid (O8.out.drewN nq)
            have h9 := h8.drewN nq
            have RS9 : Hid ((w8.drewN nq).heap[Hs]? = some (.cells #[.int .i64 6, .int .i64 bf, .int .i64 e2, .int .i64 e3, .int .i64 e4, .int .i64 e5, .int .i64 e6, .int .i64 e7, .int .i64 e8, .int .i64 e9, .int .i64 2, .int .i64 a1, .int .i64 a2, .int .i64 a3, .slice sA j sc] 34 (0, 0))) := RS8
            have RE9 : Hid ((w8.drewN nq).heap[(Hs + 1)]? = some (.cells #[.int .i64 6, .int .i64 bf, .int .i64 e2, .int .i64 e3, .int .i64 e4, .int .i64 e5, .int .i64 e6, .int .i64 e7, .int .i64 e8, .int .i64 e9] 26 (0, 0))) := RE8
            have RA9 : Hid ((w8.drewN nq).heap[(Hs + 1 + 1)]? = some (.cells #[.int .i64 2, .int .i64 a1, .int .i64 a2, .int .i64 a3] 31 (0, 0))) := RA8
            have Y0 : (w8.drewN nq).cell? ⟨q, 0, none⟩ = some (.slice (some ad) n cap) := y0
            have Y4 : (w8.drewN nq).cell? ⟨(ad.add (k * 5)).block, (ad.add (k * 5)).off + 3, none⟩ = some (.bool bb) := y4
            have Y5 : (w8.drewN nq).cell? ⟨(ad.add (k * 5)).block, (ad.add (k * 5)).off + 4, none⟩ = some (.bool false) := y5
            clear h8 z1 O8 RS8 RE8 RA8 y0 y1 y2 y3 y4 y5
            generalize w8.drewN nq = w9 at O9 h9 RS9 RE9 RA9 Y0 Y4 Y5 ⊢
            have z0 := (cellB RA9.out 0 _ rfl : w9.cell? ⟨(Hs + 1 + 1), 0, none⟩ = some (.int .i64 2))
            have z1 := (cellB RA9.out 1 _ rfl : w9.cell? ⟨(Hs + 1 + 1), 1, none⟩ = some (.int .i64 a1))
            have zS := (cellB RS9.out 14 _ rfl : w9.cell? ⟨Hs, 14, none⟩ = some (.slice sA j sc))
            have q3 := h9.q2.2.2
            have hnb : 1 ≤ W2.nx ∧ W2.nx ≤ 1048577 := by have := h9.gd.nx1; have := h9.gd.nxN; omega
            have hwn : IntKind.i64.wrap (W2.nx - 1) = W2.nx - 1 := wr_small (by omega) (by omega)
            go_wp2_with fail
            cases bb with
            | true =>
              have HCL : Hid (stp W (⟨6, bf, e2, e3, e4, e5, e6, e7, e8, e9⟩, ⟨2, a1, a2, a3⟩, cs) = none) := Lib.hid (by rw [HSTY.out HCF.out]; exact clo_not rfl (show (2 : Int) ≠ 4 by decide) HF.out (fun t => by have := (t.1 rfl).1; cases this))
              go_quiet (fail)
              have O10 := O9.out.drewN nq
              generalize w9.drewN nq = w10 at O10 ⊢
              clear h9 z0 z1 zS q3 O9 RS9 RE9 RA9 Y0 Y4 Y5
              go_wp2
              go_ret
              exact ⟨O10, Or.inl ⟨HCL.out, rfl⟩⟩
            | false =>
              rcases Nat.eq_zero_or_pos j with hz | hz
              · skip
                have hcn := HNIL.out.2 hz
                subst hz
                have HCN := Lib.hid hcn
                clear hcn
                have HCL : Hid (stp W (⟨6, bf, e2, e3, e4, e5, e6, e7, e8, e9⟩, ⟨2, a1, a2, a3⟩, cs) = some { W2 with L := up1 setBusy a1 W2.L }) := Lib.hid (by rw [HSTY.out HCF.out]; exact clo_yes rfl (show (2 : Int) ≠ 4 by decide) HF.out rfl rfl ⟨fun _ => ⟨rfl, HCN.out⟩, fun t => absurd (show (2 : Int) = 3 from t) (by decide)⟩)
                go_quiet (fail)
                have O10 := O9.out.drewN nq
                have h10 := h9.drewN nq
                have Y0' : (w9.drewN nq).cell? ⟨q, 0, none⟩ = some (.slice (some ad) n cap) := Y0
                clear h9 z0 z1 zS q3 O9 RS9 RE9 RA9 Y0 Y4 Y5
                generalize w9.drewN nq = w10 at O10 h10 Y0' ⊢
                obtain ⟨cur, g1, hG1, hcur, hlt1, hmk⟩ := h10.mark HA1.out (f := setBusy) (fun _ => rfl) (fun _ => rfl) (fun _ => rfl) (c := 4) (by decide) (u := .bool true) rfl
                have hgg : g1 = g0 := by have := HGG.out; rw [hG1] at this; injection this
                subst hgg
                have HPP : Hid (Value.pointer (some ⟨(ad.add (k * 5)).block, (ad.add (k * 5)).off + 4, none⟩) = .pointer (some ⟨g1, k * 5 + 4, none⟩)) := Lib.hid (by rw [HAD.out, Addr.add_mid, Nat.zero_add])
                go_wp2_with (refine wpList_store_boolin rfl 4 (.tmp 272) (.const (.bool true)) rfl (by kernel_rfl) g1 (k * 5 + 4) HPP.out true rfl cur _ hcur hlt1 ?_; intro w11 m11 g11)
                go_ret
                refine ⟨O10.trans (Only.grown (S := fun j => j = g1) g11 (Or.inl rfl)) (fun z t => ?_), Or.inr ⟨_, G2, HCL.out, rfl, (hmk _ m11.out g11).up (by omega), HG2.out⟩⟩
                rcases HG2.out g1 HGG.out with t2 | t2
                · left; rw [t]; exact Or.inr (Or.inr (Or.inr t2))
                · right; rw [t]; exact t2
              · skip
                have hz2 : decide ((0 : Int) < (j : Int)) = true := decide_eq_true (by omega)
                have HCL : Hid (stp W (⟨6, bf, e2, e3, e4, e5, e6, e7, e8, e9⟩, ⟨2, a1, a2, a3⟩, cs) = none) := Lib.hid (by rw [HSTY.out HCF.out]; exact clo_not rfl (show (2 : Int) ≠ 4 by decide) HF.out (fun t => by have := HNIL.out.1 (t.1 rfl).2; omega))
                go_quiet (fail)
                have O10 := O9.out.drewN nq
                generalize w9.drewN nq = w10 at O10 ⊢
                clear h9 z0 z1 zS q3 O9 RS9 RE9 RA9 Y0 Y4 Y5
                go_wp2
                go_ret
                exact ⟨O10, Or.inl ⟨HCL.out, rfl⟩⟩
          · skip
            have hd2 : (bf == e1) = false := beq_false_of_ne hfn
            have HCL : Hid (stp W (⟨6, e1, e2, e3, e4, e5, e6, e7, e8, e9⟩, ⟨2, a1, a2, a3⟩, cs) = none) := Lib.hid (by rw [HSTY.out HCF.out]; exact clo_bad rfl (show (2 : Int) ≠ 4 by decide) (Or.inr ⟨_, HF.out, Or.inr hfn⟩))
            go_wp2_with fail
            go_quiet (fail)
            have O9 := O8.out.drewN nq
            generalize w8.drewN nq = w9 at O9 ⊢
            clear h8 z1 O8 RS8 RE8 RA8 y0 y1 y2 y3 y4 y5
            go_wp2
            go_ret
            exact ⟨O9, Or.inl ⟨HCL.out, rfl⟩⟩
end Go.Proofs.Ytgpookphacdgoaa.W.U
