/- The law AuditRaw: its walk. Made by mk_auyr.py. -/
import Derived.Test.YtgpookphacdgoaaAuYf
import Derived.Test.YtgpookphacdgoaaAuL
import Derived.Test.YtgpookphacdgoaaStpO
namespace Go.Proofs.Ytgpookphacdgoaa.W.U
open Go.RowKit Go.Maps Go.ChangeMaps Go.MapKept Go.Proofs.Ytgpookphacdgoaa.W

abbrev StpI := (Nat → Int) × Option Addr × Nat × Nat × (Nat → CmdO)
def stpO (s : StpI) : Stp := (⟨s.1 0, s.1 1, s.1 2, s.1 3, s.1 4, s.1 5, s.1 6, s.1 7, s.1 8, s.1 9⟩, ⟨s.1 10, s.1 11, s.1 12, s.1 13⟩, (List.range s.2.2.1).map s.2.2.2.2)
theorem range_at {α : Type} {f : Nat → α} {n k : Nat} {x : α} (h : ((List.range n).map f)[k]? = some x) : k < n ∧ x = f k := by
  rw [List.getElem?_map] at h
  by_cases hk : k < n
  · rw [List.getElem?_range hk] at h; injection h with h; exact ⟨hk, h.symm⟩
  · rw [List.getElem?_eq_none (by simp; omega)] at h; cases h
theorem SL.ofO {w : World} {A : Option Addr} {len : Nat} {S : Nat → StpI} (hst : ∀ k, k < len → ∃ ad, A = some ad ∧ StO w ad k (S k)) : SL w w.heap.size A ((List.range len).map fun k => stpO (S k)) := by
  intro k s hk
  obtain ⟨hkl, rfl⟩ := range_at hk
  obtain ⟨ad, hA, h1, h2, h3, h4⟩ := hst k hkl
  refine ⟨ad, (S k).2.1, (S k).2.2.1, (S k).2.2.2.1, hA, ?_, ?_, h2, ?_, ?_, ?_⟩
  · have := cell_lt (h1 0 (by decide)).1; rwa [blk_add] at this
  · intro j v hv
    match j, hv with
    | 0, hv => cases hv; exact (h1 0 (by decide)).1
    | 1, hv => cases hv; exact (h1 1 (by decide)).1
    | 2, hv => cases hv; exact (h1 2 (by decide)).1
    | 3, hv => cases hv; exact (h1 3 (by decide)).1
    | 4, hv => cases hv; exact (h1 4 (by decide)).1
    | 5, hv => cases hv; exact (h1 5 (by decide)).1
    | 6, hv => cases hv; exact (h1 6 (by decide)).1
    | 7, hv => cases hv; exact (h1 7 (by decide)).1
    | 8, hv => cases hv; exact (h1 8 (by decide)).1
    | 9, hv => cases hv; exact (h1 9 (by decide)).1
    | 10, hv => cases hv; exact (h1 10 (by decide)).1
    | 11, hv => cases hv; exact (h1 11 (by decide)).1
    | 12, hv => cases hv; exact (h1 12 (by decide)).1
    | 13, hv => cases hv; exact (h1 13 (by decide)).1
    | j + 14, hv => simp at hv
  · simp [stpO]
  · intro i c hc
    obtain ⟨hi, rfl⟩ := range_at hc
    obtain ⟨ad2, g1, g2, g3, g4, g5, g6, _⟩ := h4 i hi
    exact ⟨ad2, g1, g2, g3, g4, g5, g6⟩
  · intro c hc
    obtain ⟨i, hi, rfl⟩ := List.mem_map.1 hc
    obtain ⟨ad2, _, _, _, _, _, _, u1, u2, u3⟩ := h4 i (List.mem_range.1 hi)
    exact ⟨u1, u2, u3⟩
theorem SL.upR {w : World} {B B' : Nat} {A : Option Addr} {ss : List Stp} (h : B ≤ B') (H : SL w B A ss) : SL w B' A ss := fun k s hk => by
  obtain ⟨ad, sA, sl, sc, h1, h2, h3, h4, h5, h6, h7⟩ := H k s hk
  refine ⟨ad, sA, sl, sc, h1, Nat.lt_of_lt_of_le h2 h, h3, h4, h5, fun k c hk => ?_, h7⟩
  obtain ⟨ad2, g1, g2, g3⟩ := h6 k c hk
  exact ⟨ad2, g1, Nat.lt_of_lt_of_le g2 h, g3⟩
theorem tot_20 : ∀ {ss : List Stp}, (∀ s ∈ ss, s.2.2.length ≤ 20) → tot ss ≤ 42 * ss.length
  | [], _ => Nat.le_refl _
  | a :: r, h => by
    have := tot_20 (fun s hs => h s (List.mem_cons_of_mem _ hs))
    have := h a List.mem_cons_self
    simp only [tot, List.length_cons]; omega


set_option maxRecDepth 100000 in
set_option maxHeartbeats 3200000 in
theorem araw_walk (w : World) (A : Option Addr) (len cap : Nat) (S : Nat → StpI) (hlm : len ≤ maxLen) (hst : ∀ k, k < len → ∃ ad, A = some ad ∧ StO w ad k (S k)) : Calls Try.prog 3 #[.slice A len cap] w fun e w' => e = .returned (.bool true) ∧ Below w.heap.size w w' := by
  have hlm' : len ≤ 9223372036854775807 := Nat.le_trans hlm (by decide)
  have HST := Lib.hid hst
  have HSL := Lib.hid (SL.ofO hst)
  clear hst
  go_enter Try.func3, Try.ntmps3
  go_wp2_with fail
  refine (head19 w).mono ?_
  rintro e w1 ⟨rfl, b1⟩
  by_cases h60 : len ≤ 60
  case neg =>
    have d60 : decide ((60 : Int) < (len : Int)) = true := by simp; omega
    go_wp2_with fail
    go_ret
    exact ⟨rfl, b1⟩
  have d60 : decide ((60 : Int) < (len : Int)) = false := by simp; omega
  have HB1 := Lib.hid b1
  clear b1
  go_wp2_with fail
  go_loopg [12] len (fun gk v12 wr => ∃ (k : Nat), v12 = .int .i64 (k : Int) ∧ k + gk = len ∧ Hid (∀ j, j < k → (S j).2.2.1 ≤ 20) ∧ Hid (Below w.heap.size w wr))
  case atStart => exact ⟨0, rfl, by omega, Lib.hid (fun j hj => by omega), HB1⟩
  case round =>
    clear HB1
    obtain ⟨k, rfl, hkl, H20, HBL⟩ := hrel
    have HKL := Lib.hid hkl
    by_cases hk : k < len
    · have hki : (k : Int) < (len : Int) := by omega
      obtain ⟨ad, hA, hs⟩ := HST.out k hk
      obtain ⟨⟨Z, sA, sl, sc, C⟩, hS⟩ : ∃ s, S k = s := ⟨_, rfl⟩
      rw [hS] at hs
      obtain ⟨c1, c2, hslm, _⟩ := hs
      have hadb : ad.block < w.heap.size := by have := cell_lt (c1 0 (by decide)).1; rwa [blk_add] at this
      have hce : ∀ j, j < 14 → wr.cell? (ad.add (k * 15 + j)) = some (.int .i64 (Z j)) ∧ (Lit.int .i64 (Z j)).wf = true := fun j hj => ⟨cell_same hadb (fun j hj => HBL.out.block j hj) (c1 j hj).1, (c1 j hj).2⟩
      have y14 := cell_same hadb (fun j hj => HBL.out.block j hj) c2
      dsimp only at y14 hslm
      have y0 := (hce 0 (by decide)).1
      rw [Nat.add_zero] at y0
      have x1 := cell_in0 (by decide) (hce 1 (by decide)).1
      have x2 := cell_in0 (by decide) (hce 2 (by decide)).1
      have x3 := cell_in0 (by decide) (hce 3 (by decide)).1
      have x4 := cell_in0 (by decide) (hce 4 (by decide)).1
      have x5 := cell_in0 (by decide) (hce 5 (by decide)).1
      have x6 := cell_in0 (by decide) (hce 6 (by decide)).1
      have x7 := cell_in0 (by decide) (hce 7 (by decide)).1
      have x8 := cell_in0 (by decide) (hce 8 (by decide)).1
      have x9 := cell_in0 (by decide) (hce 9 (by decide)).1
      have x10 := cell_in0 (by decide) (hce 10 (by decide)).1
      have x11 := cell_in0 (by decide) (hce 11 (by decide)).1
      have x12 := cell_in0 (by decide) (hce 12 (by decide)).1
      have x13 := cell_in0 (by decide) (hce 13 (by decide)).1
      have x14 := cell_in0 (by decide) y14
      have HS := Lib.hid hS
      subst hA
      have hbs := HBL.out.size
      have HBA : Hid (Below w.heap.size w (wr.alloc (.cells #[.int .i64 (Z 0), .int .i64 (Z 1), .int .i64 (Z 2), .int .i64 (Z 3), .int .i64 (Z 4), .int .i64 (Z 5), .int .i64 (Z 6), .int .i64 (Z 7), .int .i64 (Z 8), .int .i64 (Z 9), .int .i64 (Z 10), .int .i64 (Z 11), .int .i64 (Z 12), .int .i64 (Z 13), .slice sA sl sc] 34))) := Lib.hid (HBL.out.alloc hbs _)
      have hro := heap_alloc_new wr (.cells #[.int .i64 (Z 0), .int .i64 (Z 1), .int .i64 (Z 2), .int .i64 (Z 3), .int .i64 (Z 4), .int .i64 (Z 5), .int .i64 (Z 6), .int .i64 (Z 7), .int .i64 (Z 8), .int .i64 (Z 9), .int .i64 (Z 10), .int .i64 (Z 11), .int .i64 (Z 12), .int .i64 (Z 13), .slice sA sl sc] 34)
      have z14 : (wr.alloc (.cells #[.int .i64 (Z 0), .int .i64 (Z 1), .int .i64 (Z 2), .int .i64 (Z 3), .int .i64 (Z 4), .int .i64 (Z 5), .int .i64 (Z 6), .int .i64 (Z 7), .int .i64 (Z 8), .int .i64 (Z 9), .int .i64 (Z 10), .int .i64 (Z 11), .int .i64 (Z 12), .int .i64 (Z 13), .slice sA sl sc] 34)).cell? ⟨wr.heap.size, 14, none⟩ = some (.slice sA sl sc) := cellB hro 14 _ rfl
      have z3 : (wr.alloc (.cells #[.int .i64 (Z 0), .int .i64 (Z 1), .int .i64 (Z 2), .int .i64 (Z 3), .int .i64 (Z 4), .int .i64 (Z 5), .int .i64 (Z 6), .int .i64 (Z 7), .int .i64 (Z 8), .int .i64 (Z 9), .int .i64 (Z 10), .int .i64 (Z 11), .int .i64 (Z 12), .int .i64 (Z 13), .slice sA sl sc] 34)).cell? ⟨wr.heap.size, 3, none⟩ = some (.int .i64 (Z 3)) := cellB hro 3 _ rfl
      have z6 : (wr.alloc (.cells #[.int .i64 (Z 0), .int .i64 (Z 1), .int .i64 (Z 2), .int .i64 (Z 3), .int .i64 (Z 4), .int .i64 (Z 5), .int .i64 (Z 6), .int .i64 (Z 7), .int .i64 (Z 8), .int .i64 (Z 9), .int .i64 (Z 10), .int .i64 (Z 11), .int .i64 (Z 12), .int .i64 (Z 13), .slice sA sl sc] 34)).cell? ⟨wr.heap.size, 6, none⟩ = some (.int .i64 (Z 6)) := cellB hro 6 _ rfl
      have hsl' : sl ≤ 9223372036854775807 := Nat.le_trans hslm (by decide)
      clear c1 c2 hce y14 hS hadb hro hbs hkl hslm
      by_cases h20 : sl ≤ 20
      case neg =>
        have d20 : decide ((20 : Int) < (sl : Int)) = true := by simp; omega
        go_wp2_with fail
        go_ret
        exact ⟨rfl, HBA.out⟩
      have d20 : decide ((20 : Int) < (sl : Int)) = false := by simp; omega
      by_cases h3 : (1073741824 : Int) < Z 3
      · have d3 : decide ((1073741824 : Int) < Z 3) = true := by simp; omega
        go_wp2_with fail
        go_ret
        exact ⟨rfl, HBA.out⟩
      have d3 : decide ((1073741824 : Int) < Z 3) = false := by simp; omega
      by_cases h6 : (1073741824 : Int) < Z 6
      · have d6 : decide ((1073741824 : Int) < Z 6) = true := by simp; omega
        go_wp2_with fail
        go_ret
        exact ⟨rfl, HBA.out⟩
      have d6 : decide ((1073741824 : Int) < Z 6) = false := by simp; omega
      have H21 : Hid (∀ j, j < k + 1 → (S j).2.2.1 ≤ 20) := Lib.hid (fun j hj => by
        by_cases e : j = k
        · subst e; rw [HS.out]; exact h20
        · exact H20.out j (by omega))
      clear HBL H20 HS h3 h6
      go_wp2_with fail
      go_roundg (len - k - 1)
      case measure => have := HKL.out; omega
      case rel => exact ⟨k + 1, by go_num, by have := HKL.out; omega, H21, HBA⟩
    · obtain rfl : k = len := by omega
      have hd : decide ((k : Int) < (k : Int)) = false := by simp
      have ht : tot ((List.range k).map fun j => stpO (S j)) < 1048000 := by
        have := tot_20 (ss := (List.range k).map fun j => stpO (S j)) (fun s hs => by
          obtain ⟨j, hj, rfl⟩ := List.mem_map.1 hs
          have := H20.out j (List.mem_range.1 hj)
          simp [stpO]; exact this)
        rw [List.length_map, List.length_range] at this
        omega
      have hb := HBL.out
      have HT := Lib.hid ht
      clear hkl hk ht
      go_wp2_with fail
      refine (c_First wr A k cap _ (by simp) (SL.upR hb.size (HSL.out.keep (fun j hj => hb.block j hj))) HT.out).mono ?_
      rintro e w2 ⟨rfl, b2⟩
      have hb2 := hb.trans (b2.mono hb.size)
      go_wp2_with fail
      refine (l_first w2 A k cap _ (by simp) (SL.upR hb2.size (HSL.out.keep (fun j hj => hb2.block j hj))) HT.out).mono ?_
      rintro e w3 ⟨rfl, b3⟩
      have hb3 := hb2.trans (b3.mono hb2.size)
      go_wp2_with fail
      go_ret
      exact ⟨by simp, hb3⟩

end Go.Proofs.Ytgpookphacdgoaa.W.U
