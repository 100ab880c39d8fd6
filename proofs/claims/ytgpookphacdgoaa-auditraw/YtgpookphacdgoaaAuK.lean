/- Package audit: First. -/
import Derived.Test.YtgpookphacdgoaaAuJ
namespace Go.Proofs.Ytgpookphacdgoaa.W.U
open Go.RowKit Go.Maps Go.ChangeMaps Go.MapKept Go.Proofs.Ytgpookphacdgoaa.W

abbrev scel (s : Stp) : List Value := [.int .i64 s.1.k, .int .i64 s.1.n, .int .i64 s.1.l, .int .i64 s.1.s, .int .i64 s.1.r, .int .i64 s.1.a, .int .i64 s.1.m, .int .i64 s.1.c, .int .i64 s.1.v, .int .i64 s.1.p, .int .i64 s.2.1.k, .int .i64 s.2.1.b, .int .i64 s.2.1.y, .int .i64 s.2.1.e]
/-- Steps that came in. -/
def SL (w : World) (B : Nat) (A : Option Addr) (ss : List Stp) : Prop :=
  ∀ (k : Nat) (s : Stp), ss[k]? = some s → ∃ ad sA sl sc, A = some ad ∧ ad.block < B ∧ (∀ j v, (scel s)[j]? = some v → w.cell? (ad.add (k * 15 + j)) = some v) ∧ w.cell? (ad.add (k * 15 + 14)) = some (.slice sA sl sc) ∧ s.2.2.length = sl ∧ CL w B sA s.2.2 ∧ ∀ c ∈ s.2.2, cwf c
theorem SL.keep {w w' : World} {B : Nat} {A : Option Addr} {ss : List Stp} (H : SL w B A ss) (h : ∀ j, j < B → w'.heap[j]? = w.heap[j]?) : SL w' B A ss := fun k s hk => by
  obtain ⟨ad, sA, sl, sc, h1, h2, h3, h4, h5, h6, h7⟩ := H k s hk
  exact ⟨ad, sA, sl, sc, h1, h2, fun j v hv => cell_same h2 h (h3 j v hv), cell_same h2 h h4, h5, h6.keep h, h7⟩
def tot : List Stp → Nat
  | [] => 0
  | s :: r => 2 * s.2.2.length + 2 + tot r
theorem tot_take {ss : List Stp} : ∀ {k : Nat} {s : Stp}, ss[k]? = some s → tot (ss.take (k + 1)) = tot (ss.take k) + 2 * s.2.2.length + 2 ∧ tot (ss.take k) + 2 * s.2.2.length + 2 ≤ tot ss := by
  induction ss with
  | nil => intro k s h; simp at h
  | cons a r ih =>
    intro k s h
    cases k with
    | zero => simp at h; subst h; simp [tot]
    | succ k =>
      obtain ⟨h1, h2⟩ := ih (k := k) (s := s) (by simpa using h)
      simp only [List.take_succ_cons, tot]
      omega
theorem cell_in0 {w : World} {ad : Addr} {i j : Nat} {v : Value} (hj : 0 < j) (h : w.cell? (ad.add (i + j)) = some v) : w.cell? ⟨(ad.add i).block, (ad.add i).off + j, none⟩ = some v := by
  obtain ⟨c, rfl⟩ : ∃ c, j = c + 1 := ⟨j - 1, by omega⟩
  exact cell_in h


set_option maxRecDepth 100000 in
set_option maxHeartbeats 3200000 in
theorem c_First (w : World) (A : Option Addr) (len cap : Nat) (ss : List Stp) (hss : ss.length = len) (hsl : SL w w.heap.size A ss) (hN : tot ss < 1048000) : Calls Try.prog 6 #[.slice A len cap] w fun e w' => e = .returned (.int .i64 (fst_ Wd.zero 0 ss)) ∧ Below w.heap.size w w' := by
  have HSS := Lib.hid hss
  have HSL := Lib.hid hsl
  have hlm : len ≤ 1048000 := by
    have : ∀ l : List Stp, l.length ≤ tot l := by
      intro l; induction l with
      | nil => exact Nat.le_refl _
      | cons a r ih => simp only [tot, List.length_cons]; omega
    have := this ss; omega
  obtain ⟨R, hR⟩ : ∃ R, fst_ Wd.zero 0 ss = R := ⟨_, rfl⟩
  rw [hR]
  have HR := Lib.hid hR
  clear hss hsl hR
  go_enter Try.func6, Try.ntmps6
  go_wp2_with fail
  refine (c_new w).mono ?_
  rintro e0 w1 ⟨own, y, rfl, h, hown, b1⟩
  go_wp2_with fail
  go_loopg [9] len (fun gk v9 wr => ∃ (k : Nat) (W1 : Wd) (y1 : Lay) (s1 : Vs) (o1 : Nat → Option Tag), v9 = .int .i64 (k : Int) ∧ k + gk = len ∧ Hid (Cor wr o1 y1 s1) ∧ Hid (Sim s1 W1 (tot (ss.take k))) ∧ Hid (∀ j, o1 j ≠ none → w.heap.size ≤ j) ∧ Hid (y1.v = y.v) ∧ Hid (R = fst_ W1 k (ss.drop k)) ∧ Hid (Below w.heap.size w wr))
  case atStart => exact ⟨0, .zero, y, .zero, own, rfl, by omega, Lib.hid h, Lib.hid Sim.zero, Lib.hid hown, rfl, Lib.hid HR.out.symm, Lib.hid b1⟩
  case round =>
    clear h hown b1
    obtain ⟨k, W1, y1, s1, o1, rfl, hkl, H1, HS1, HO1, HV1, HW1, HBL⟩ := hrel
    have HKL := Lib.hid hkl
    by_cases hk : k < len
    · have hki : (k : Int) < (len : Int) := by omega
      have hkc : k < ss.length := by rw [HSS.out]; exact hk
      obtain ⟨⟨⟨e0, e1, e2, e3, e4, e5, e6, e7, e8, e9⟩, ⟨a0, a1, a2, a3⟩, cs⟩, hc⟩ : ∃ c, ss[k]? = some c := ⟨_, List.getElem?_eq_getElem hkc⟩
      obtain ⟨ht1, ht2⟩ := tot_take hc
      have hdr : ss.drop k = (⟨e0, e1, e2, e3, e4, e5, e6, e7, e8, e9⟩, ⟨a0, a1, a2, a3⟩, cs) :: ss.drop (k + 1) := by
        rw [List.drop_eq_getElem_cons hkc]
        rw [List.getElem?_eq_getElem hkc] at hc
        injection hc with hc; rw [hc]
      have hW : R = (match stp W1 (⟨e0, e1, e2, e3, e4, e5, e6, e7, e8, e9⟩, ⟨a0, a1, a2, a3⟩, cs) with
        | some W' => fst_ W' (k + 1) (ss.drop (k + 1))
        | none => (k : Int)) := by rw [HW1.out, hdr]; rfl
      have HW := Lib.hid hW
      obtain ⟨ad, sA, sl, sc, hA, hadb, hce, y14, hsl, hcl, hcw⟩ := HSL.out.keep (fun j hj => HBL.out.block j hj) k _ hc
      have y0 := hce 0 _ rfl
      rw [Nat.add_zero] at y0
      have x1 := cell_in0 (by decide) (hce 1 _ rfl)
      have x2 := cell_in0 (by decide) (hce 2 _ rfl)
      have x3 := cell_in0 (by decide) (hce 3 _ rfl)
      have x4 := cell_in0 (by decide) (hce 4 _ rfl)
      have x5 := cell_in0 (by decide) (hce 5 _ rfl)
      have x6 := cell_in0 (by decide) (hce 6 _ rfl)
      have x7 := cell_in0 (by decide) (hce 7 _ rfl)
      have x8 := cell_in0 (by decide) (hce 8 _ rfl)
      have x9 := cell_in0 (by decide) (hce 9 _ rfl)
      have x10 := cell_in0 (by decide) (hce 10 _ rfl)
      have x11 := cell_in0 (by decide) (hce 11 _ rfl)
      have x12 := cell_in0 (by decide) (hce 12 _ rfl)
      have x13 := cell_in0 (by decide) (hce 13 _ rfl)
      have x14 := cell_in0 (by decide) y14
      subst hA
      have hbs := HBL.out.size
      have h1 := H1.out.alloc (.cells #[.int .i64 e0, .int .i64 e1, .int .i64 e2, .int .i64 e3, .int .i64 e4, .int .i64 e5, .int .i64 e6, .int .i64 e7, .int .i64 e8, .int .i64 e9, .int .i64 a0, .int .i64 a1, .int .i64 a2, .int .i64 a3, .slice sA sl sc] 34)
      have N1 := (Nx.refl wr o1).alloc (.cells #[.int .i64 e0, .int .i64 e1, .int .i64 e2, .int .i64 e3, .int .i64 e4, .int .i64 e5, .int .i64 e6, .int .i64 e7, .int .i64 e8, .int .i64 e9, .int .i64 a0, .int .i64 a1, .int .i64 a2, .int .i64 a3, .slice sA sl sc] 34)
      have hB : Base o1 (wr.alloc (.cells #[.int .i64 e0, .int .i64 e1, .int .i64 e2, .int .i64 e3, .int .i64 e4, .int .i64 e5, .int .i64 e6, .int .i64 e7, .int .i64 e8, .int .i64 e9, .int .i64 a0, .int .i64 a1, .int .i64 a2, .int .i64 a3, .slice sA sl sc] 34)) w.heap.size := ⟨Nat.le_trans hbs N1.only.size, HO1.out⟩
      have hst := c_step (sc := sc) (e0 := e0) (e1 := e1) (e2 := e2) (e3 := e3) (e4 := e4) (e5 := e5) (e6 := e6) (e7 := e7) (e8 := e8) (e9 := e9) (a0 := a0) (a1 := a1) (a2 := a2) (a3 := a3) h1 HS1.out hsl (hcl.keep (fun j hj => N1.only.block j (by omega) (fun q => by have := HO1.out j q; omega))) hcw hB (by dsimp only at ht2 hsl; omega)
      rw [HV1.out] at hst
      have HST := Lib.hid hst
      have HT1 := Lib.hid ht1
      have HSLN := Lib.hid hsl
      clear hce y14 hdr hW hkl hc hadb H1 HS1 HW1 hst ht1 ht2 hsl hcl hcw h1
      go_wp2_with fail
      refine HST.out.mono ?_
      rintro e w3 ⟨o3, n3, ⟨hr, rfl⟩ | ⟨W3, y3, s3, hr, rfl, hv3, h3, S3⟩⟩
      · have hfin : R = (k : Int) := by rw [HW.out, hr]
        have HF := Lib.hid hfin
        have b3 := HBL.out.trans ((N1.trans n3).only.below (fun j q => HO1.out j q) hbs)
        clear hr hfin HST
        go_wp2_with fail
        go_ret
        exact ⟨by rw [HF.out]; rfl, b3⟩
      · have hfin : R = fst_ W3 (k + 1) (ss.drop (k + 1)) := by rw [HW.out, hr]
        have hS3 : Sim s3 W3 (tot (ss.take (k + 1))) := by rw [HT1.out]; (try dsimp only); rw [HSLN.out]; exact S3
        have b3 := HBL.out.trans ((N1.trans n3).only.below (fun j q => HO1.out j q) hbs)
        have hO3 : ∀ j, o3 j ≠ none → w.heap.size ≤ j := fun j q => (n3.new j q).elim (HO1.out j) (fun q => Nat.le_trans hB.1 q)
        have H3 := Lib.hid h3
        have HS3 := Lib.hid hS3
        have HO3 := Lib.hid hO3
        have HV3 := Lib.hid hv3
        have HW3 := Lib.hid hfin
        have HB3 := Lib.hid b3
        clear hr h3 n3 S3 hS3 hv3 hfin N1 hO3 b3 HST hB
        go_wp2_with fail
        go_roundg (len - k - 1)
        case measure => have := HKL.out; omega
        case rel => exact ⟨k + 1, W3, y3, s3, o3, by go_num, by have := HKL.out; omega, H3, HS3, HO3, HV3, HW3, HB3⟩
    · obtain rfl : k = len := by omega
      have hd : decide ((k : Int) < (k : Int)) = false := by simp
      have hdr : ss.drop k = [] := List.drop_eq_nil_of_le (by rw [HSS.out]; exact Nat.le_refl _)
      have hfin : R = -1 := by rw [HW1.out, hdr]; rfl
      have HF := Lib.hid hfin
      clear hdr hfin hkl hk
      go_wp2_with fail
      go_ret
      exact ⟨by rw [HF.out]; rfl, HBL.out⟩

end Go.Proofs.Ytgpookphacdgoaa.W.U
