/- Package audit's law: its First. Made by mk_auyf.py. -/
import Derived.Test.YtgpookphacdgoaaAuYs
import Derived.Test.YtgpookphacdgoaaAuK
namespace Go.Proofs.Ytgpookphacdgoaa.W.U
open Go.RowKit Go.Maps Go.ChangeMaps Go.MapKept Go.Proofs.Ytgpookphacdgoaa.W

theorem Wl.fresh (w : World) : ∃ w', w' = ((w.alloc (.map #[] 0)).alloc (.map #[] 0)).alloc (.cells #[.slice none 0 0, .map (some w.heap.size), .map (some (w.heap.size + 1)), .int .i64 1] 47) ∧ Wl w' (w.heap.size + 2) w.heap.size (w.heap.size + 1) none .zero 0 ∧ Below w.heap.size w w' := by
  refine ⟨_, rfl, ?_, ((((Below.refl w.heap.size w).alloc (Nat.le_refl _) (.map #[] 0)).alloc (by rw [World.size_alloc]; omega) (.map #[] 0)).alloc (by rw [World.size_alloc, World.size_alloc]; omega) _)⟩
  obtain ⟨n, hn⟩ : ∃ n, w.heap.size = n := ⟨_, rfl⟩
  have m1 : Mp Try.prog 3 (w.alloc (.map #[] 0)) n (fun _ => none) 0 := by rw [← hn]; exact Mp.made _ _ _
  have m2 : Mp Try.prog 3 ((w.alloc (.map #[] 0)).alloc (.map #[] 0)) (n + 1) (fun _ => none) 0 := by
    have := Mp.made Try.prog 3 (w.alloc (.map #[] 0)); rw [World.size_alloc, hn] at this; exact this
  have k1 : Only (w.alloc (.map #[] 0)) ((w.alloc (.map #[] 0)).alloc (.map #[] 0)) (fun _ => False) := (Only.refl _ _).alloc _
  have s2 : ((w.alloc (.map #[] 0)).alloc (.map #[] 0)).heap.size = n + 2 := by rw [World.size_alloc, World.size_alloc, hn]
  have k3 := (Only.refl ((w.alloc (.map #[] 0)).alloc (.map #[] 0)) (fun _ => False)).alloc (.cells #[.slice none 0 0, .map (some n), .map (some (n + 1)), .int .i64 1] 47)
  have r3 := heap_alloc_new ((w.alloc (.map #[] 0)).alloc (.map #[] 0)) (.cells #[.slice none 0 0, .map (some n), .map (some (n + 1)), .int .i64 1] 47)
  rw [s2] at r3
  rw [hn]
  exact ⟨⟨_, r3, Or.inl ⟨rfl, rfl, rfl⟩⟩, ⟨_, 0, (m1.kept k1 (fun t => t)).kept k3 (fun t => t), Nat.le_refl _, fun _ => rfl⟩, ⟨0, Mp.vals (m2.kept k3 (fun t => t)) rfl, Nat.le_refl _⟩, by omega, by omega, by omega, fun g hg => (by cases hg), Gd.zero⟩


set_option maxRecDepth 100000 in
set_option maxHeartbeats 3200000 in
theorem l_first (w : World) (A : Option Addr) (len cap : Nat) (ss : List Stp) (hss : ss.length = len) (hsl : SL w w.heap.size A ss) (hN : tot ss < 1048000) : Calls Try.prog 7 #[.slice A len cap] w fun e w' => e = .returned (.int .i64 (fst_ Wd.zero 0 ss)) ∧ Below w.heap.size w w' := by
  have HSS := Lib.hid hss
  have HSL := Lib.hid hsl
  have hlm : len ≤ 1048000 := by
    have : ∀ l : List Stp, l.length ≤ tot l := by
      intro l; induction l with
      | nil => exact Nat.le_refl _
      | cons a r ih => simp only [tot, List.length_cons]; omega
    have := this ss; omega
  obtain ⟨R, hR⟩ : ∃ R, fst_ Wd.zero 0 ss = R := ⟨_, rfl⟩
  rw [hR]
  have HR := Lib.hid hR
  clear hss hsl hR
  go_enter Try.func7, Try.ntmps7
  have hmm := @run_makeMap Try.prog
  go_upto_region 2 with (fail)
  clear hmm
  obtain ⟨w1, hw1, h, b1⟩ := Wl.fresh w
  try rw [World.size_alloc, World.size_alloc]
  try rw [World.size_alloc]
  rw [← hw1]
  obtain ⟨q, hq⟩ : ∃ z, w.heap.size + 2 = z := ⟨_, rfl⟩
  have hlow : ∀ j, Ow q w.heap.size (w.heap.size + 1) none j → w.heap.size ≤ j := fun j t => by
    rcases t with t | t | t | t
    · omega
    · omega
    · omega
    · cases t
  rw [hq] at h
  try rw [show w.heap.size + 1 + 1 = q from hq]
  try rw [hq]
  have HLOW := Lib.hid hlow
  clear hw1 hlow hq
  go_wp2_with fail
  go_loopg [12] len (fun gk v12 wr => ∃ (k : Nat) (W1 : Wd) (G1 : Option Nat), v12 = .int .i64 (k : Int) ∧ k + gk = len ∧ Hid (Wl wr q w.heap.size (w.heap.size + 1) G1 W1 (tot (ss.take k))) ∧ Hid (∀ j, Ow q w.heap.size (w.heap.size + 1) G1 j → w.heap.size ≤ j) ∧ Hid (R = fst_ W1 k (ss.drop k)) ∧ Hid (Below w.heap.size w wr))
  case atStart => exact ⟨0, .zero, none, rfl, by omega, Lib.hid h, HLOW, Lib.hid HR.out.symm, Lib.hid b1⟩
  case round =>
    clear h b1 HLOW
    obtain ⟨k, W1, G1, rfl, hkl, H1, HO1, HW1, HBL⟩ := hrel
    have HKL := Lib.hid hkl
    by_cases hk : k < len
    · have hki : (k : Int) < (len : Int) := by omega
      have hkc : k < ss.length := by rw [HSS.out]; exact hk
      obtain ⟨⟨⟨e0, e1, e2, e3, e4, e5, e6, e7, e8, e9⟩, ⟨a0, a1, a2, a3⟩, cs⟩, hc⟩ : ∃ c, ss[k]? = some c := ⟨_, List.getElem?_eq_getElem hkc⟩
      obtain ⟨ht1, ht2⟩ := tot_take hc
      have hdr : ss.drop k = (⟨e0, e1, e2, e3, e4, e5, e6, e7, e8, e9⟩, ⟨a0, a1, a2, a3⟩, cs) :: ss.drop (k + 1) := by
        rw [List.drop_eq_getElem_cons hkc]
        rw [List.getElem?_eq_getElem hkc] at hc
        injection hc with hc; rw [hc]
      have hW : R = (match stp W1 (⟨e0, e1, e2, e3, e4, e5, e6, e7, e8, e9⟩, ⟨a0, a1, a2, a3⟩, cs) with
        | some W' => fst_ W' (k + 1) (ss.drop (k + 1))
        | none => (k : Int)) := by rw [HW1.out, hdr]; rfl
      have HW := Lib.hid hW
      obtain ⟨ad, sA, sl, sc, hA, hadb, hce, y14, hsl, hcl, hcw⟩ := HSL.out.keep (fun j hj => HBL.out.block j hj) k _ hc
      have y0 := hce 0 _ rfl
      rw [Nat.add_zero] at y0
      have x1 := cell_in0 (by decide) (hce 1 _ rfl)
      have x2 := cell_in0 (by decide) (hce 2 _ rfl)
      have x3 := cell_in0 (by decide) (hce 3 _ rfl)
      have x4 := cell_in0 (by decide) (hce 4 _ rfl)
      have x5 := cell_in0 (by decide) (hce 5 _ rfl)
      have x6 := cell_in0 (by decide) (hce 6 _ rfl)
      have x7 := cell_in0 (by decide) (hce 7 _ rfl)
      have x8 := cell_in0 (by decide) (hce 8 _ rfl)
      have x9 := cell_in0 (by decide) (hce 9 _ rfl)
      have x10 := cell_in0 (by decide) (hce 10 _ rfl)
      have x11 := cell_in0 (by decide) (hce 11 _ rfl)
      have x12 := cell_in0 (by decide) (hce 12 _ rfl)
      have x13 := cell_in0 (by decide) (hce 13 _ rfl)
      have x14 := cell_in0 (by decide) y14
      subst hA
      have hbs := HBL.out.size
      have ba := (Below.refl wr.heap.size wr).alloc (Nat.le_refl _) (.cells #[.int .i64 e0, .int .i64 e1, .int .i64 e2, .int .i64 e3, .int .i64 e4, .int .i64 e5, .int .i64 e6, .int .i64 e7, .int .i64 e8, .int .i64 e9, .int .i64 a0, .int .i64 a1, .int .i64 a2, .int .i64 a3, .slice sA sl sc] 34)
      have h1 := H1.out.below ba
      have hB : w.heap.size ≤ (wr.alloc (.cells #[.int .i64 e0, .int .i64 e1, .int .i64 e2, .int .i64 e3, .int .i64 e4, .int .i64 e5, .int .i64 e6, .int .i64 e7, .int .i64 e8, .int .i64 e9, .int .i64 a0, .int .i64 a1, .int .i64 a2, .int .i64 a3, .slice sA sl sc] 34)).heap.size ∧ ∀ j, Ow q w.heap.size (w.heap.size + 1) G1 j → w.heap.size ≤ j := ⟨Nat.le_trans hbs ba.size, HO1.out⟩
      have hst := l_step (sc := sc) (e0 := e0) (e1 := e1) (e2 := e2) (e3 := e3) (e4 := e4) (e5 := e5) (e6 := e6) (e7 := e7) (e8 := e8) (e9 := e9) (a0 := a0) (a1 := a1) (a2 := a2) (a3 := a3) h1 hsl (hcl.keep (fun j hj => ba.block j (by omega))) hcw hB (by dsimp only at ht2 hsl; omega)
      have HST := Lib.hid hst
      have HT1 := Lib.hid ht1
      have HSLN := Lib.hid hsl
      have HBA : Hid (Below w.heap.size w (wr.alloc (.cells #[.int .i64 e0, .int .i64 e1, .int .i64 e2, .int .i64 e3, .int .i64 e4, .int .i64 e5, .int .i64 e6, .int .i64 e7, .int .i64 e8, .int .i64 e9, .int .i64 a0, .int .i64 a1, .int .i64 a2, .int .i64 a3, .slice sA sl sc] 34))) := Lib.hid (HBL.out.alloc hbs _)
      have HLE := Lib.hid hB.1
      clear hce y14 hdr hW hkl hc hadb H1 HW1 HBL hst ht1 ht2 hsl hcl hcw h1 ba hB
      go_wp2_with fail
      refine HST.out.mono ?_
      rintro e w3 ⟨o3, ⟨hr, rfl⟩ | ⟨W3, G3, hr, rfl, h3, hg3⟩⟩
      · have hfin : R = (k : Int) := by rw [HW.out, hr]
        have HF := Lib.hid hfin
        have b3 := HBA.out.trans (o3.below (fun j t => HO1.out j t) HLE.out)
        clear hr hfin HST
        go_wp2_with fail
        go_ret
        exact ⟨by rw [HF.out]; rfl, b3⟩
      · have hfin : R = fst_ W3 (k + 1) (ss.drop (k + 1)) := by rw [HW.out, hr]
        have hS3 : Wl w3 q w.heap.size (w.heap.size + 1) G3 W3 (tot (ss.take (k + 1))) := by rw [HT1.out]; (try dsimp only); rw [HSLN.out]; exact h3
        have b3 := HBA.out.trans (o3.below (fun j t => HO1.out j t) HLE.out)
        have hO3 : ∀ j, Ow q w.heap.size (w.heap.size + 1) G3 j → w.heap.size ≤ j := fun j t => by
          rcases t with t | t | t | t
          · exact HO1.out j (Or.inl t)
          · exact HO1.out j (Or.inr (Or.inl t))
          · exact HO1.out j (Or.inr (Or.inr (Or.inl t)))
          · rcases hg3 j t with t2 | t2
            · exact HO1.out j (Or.inr (Or.inr (Or.inr t2)))
            · exact Nat.le_trans HLE.out t2
        have HS3 := Lib.hid hS3
        have HO3 := Lib.hid hO3
        have HW3 := Lib.hid hfin
        have HB3 := Lib.hid b3
        clear hr h3 hS3 hfin hO3 b3 HST hg3
        go_wp2_with fail
        go_roundg (len - k - 1)
        case measure => have := HKL.out; omega
        case rel => exact ⟨k + 1, W3, G3, by go_num, by have := HKL.out; omega, HS3, HO3, HW3, HB3⟩
    · obtain rfl : k = len := by omega
      have hd : decide ((k : Int) < (k : Int)) = false := by simp
      have hdr : ss.drop k = [] := List.drop_eq_nil_of_le (by rw [HSS.out]; exact Nat.le_refl _)
      have hfin : R = -1 := by rw [HW1.out, hdr]; rfl
      have HF := Lib.hid hfin
      clear hdr hfin hkl hk
      go_wp2_with fail
      go_ret
      exact ⟨by rw [HF.out]; rfl, HBL.out⟩

end Go.Proofs.Ytgpookphacdgoaa.W.U
