/- The law HistoHalves: its walk. -/
import Derived.Test.YtgaicojidomenaaHistoG
namespace Go.Proofs.Ytgaicojidomenaa.W
open Go.RowKit

def FF (a b ca cb : Nat) : Nat → Nat := fun j => (if j = a then ca else 0) + if j = b then cb else 0
def OO (a b ca cb : Nat) : Nat := (if 240 ≤ a then ca else 0) + if 240 ≤ b then cb else 0
theorem FF_a (a b ca cb : Nat) : aF (FF a b ca cb) (a : Int) = FF a b (ca + 1) cb := by
  funext j; unfold aF FF; (repeat' split) <;> omega
theorem FF_b (a b ca cb : Nat) : aF (FF a b ca cb) (b : Int) = FF a b ca (cb + 1) := by
  funext j; unfold aF FF; (repeat' split) <;> omega
theorem OO_a (a b ca cb : Nat) : aO (OO a b ca cb) (a : Int) = OO a b (ca + 1) cb := by
  unfold aO OO; (repeat' split) <;> omega
theorem OO_b (a b ca cb : Nat) : aO (OO a b ca cb) (b : Int) = OO a b ca (cb + 1) := by
  unfold aO OO; (repeat' split) <;> omega
theorem FF_tot (a b ca cb : Nat) : tot (FF a b ca cb) = (if a < 240 then ca else 0) + if b < 240 then cb else 0 := by
  unfold tot
  rw [show FF a b ca cb = fun j => (fun j => if j = a then ca else 0) j + (fun j => if j = b then cb else 0) j from rfl, sumTo_add, sumTo_one, sumTo_one]
theorem FF_all (a b ca cb : Nat) : tot (FF a b ca cb) + OO a b ca cb = ca + cb := by
  rw [FF_tot]; unfold OO; (repeat' split) <;> omega
theorem FF_half {a b ca cb : Nat} (h : ca + cb = 4096) : 2046 ≤ tot (fun j => FF a b ca cb j / 2) + OO a b ca cb / 2 ∧ tot (fun j => FF a b ca cb j / 2) + OO a b ca cb / 2 ≤ 2048 := by
  by_cases e : a = b
  · subst e
    rw [show (fun j => FF a a ca cb j / 2) = fun j => if j = a then (ca + cb) / 2 else 0 by funext j; unfold FF; split <;> omega]
    unfold tot; rw [sumTo_one]; unfold OO; (repeat' split) <;> omega
  · rw [show (fun j => FF a b ca cb j / 2) = fun j => (fun j => if j = a then ca / 2 else 0) j + (fun j => if j = b then cb / 2 else 0) j by
      funext j; unfold FF; simp only []; (repeat' split) <;> omega]
    unfold tot; rw [sumTo_add, sumTo_one, sumTo_one]; unfold OO; (repeat' split) <;> omega
theorem FF_zero (a b : Nat) : FF a b 0 0 = fun _ => 0 := by funext j; unfold FF; (repeat' split) <;> omega
theorem OO_zero (a b : Nat) : OO a b 0 0 = 0 := by unfold OO; (repeat' split) <;> omega
/-- What lies there behind so many. -/
def At (w : World) (r a b sh i : Nat) : Prop :=
  (i ≤ 4095 ∧ Hs w r (FF a b (min i sh) (i - sh)) (OO a b (min i sh) (i - sh))) ∨ (i = 4096 ∧ ∃ H o, Hs w r H o ∧ 2046 ≤ tot H + o ∧ tot H + o ≤ 2048)

set_option maxRecDepth 100000 in
set_option maxHeartbeats 3200000 in
theorem halves_walk (x0 x1 x2 x3 : Int) (w : World) :
    Calls Try.prog 4 #[.int .i64 x0, .int .i64 x1, .int .i64 x2, .int .i64 x3] w fun e w' => e = .returned (.bool true) ∧ Below w.heap.size w w' := by
  obtain ⟨a, ha, ha1⟩ := and_nat x0 255 8 256 (by decide) (by decide) (by decide)
  obtain ⟨b, hb, hb1⟩ := and_nat x1 255 8 256 (by decide) (by decide) (by decide)
  obtain ⟨sh, hsh, hsh1⟩ := and_nat x2 4095 12 4096 (by decide) (by decide) (by decide)
  obtain ⟨more, hmo, hmo1⟩ := and_nat x3 15 4 16 (by decide) (by decide) (by decide)
  go_enter Try.func4, Try.ntmps4
  go_wp2_with fail
  refine (histo_head _).mono ?_
  rintro e w1 ⟨rfl, hb1⟩
  go_wp2_with fail
  refine (histo_new _).mono ?_
  rintro e w2 ⟨rfl, hR2, hb2⟩
  obtain ⟨r, hr⟩ : ∃ r, w1.heap.size = r := ⟨_, rfl⟩
  have hb3 := hb1.trans (hb2.mono hb1.size)
  have hrw : w.heap.size ≤ r := by rw [← hr]; exact hb1.size
  rw [hr] at hR2 ⊢
  have hR3 : At w2 r a b sh 0 := Or.inl ⟨by omega, by rw [Nat.zero_min, Nat.zero_sub, FF_zero, OO_zero]; exact hR2⟩
  clear hb2 hb1 hr hR2
  go_wp2_with fail
  clear ha hb hsh hmo
  go_loopg [10] 4096 (fun gk vi wr => ∃ i : Nat, vi = .int .i64 (i : Int) ∧ i + gk = 4096 ∧ At wr r a b sh i ∧ Below w.heap.size w wr)
  case atStart => exact ⟨0, rfl, rfl, hR3, hb3⟩
  case round =>
    obtain ⟨i, rfl, hik, hAz, hbz⟩ := hrel
    have HIK := Lib.hid hik
    clear hR3 hb3
    by_cases hi : i < 4096
    · obtain ⟨_, hS⟩ : i ≤ 4095 ∧ Hs wr r (FF a b (min i sh) (i - sh)) (OO a b (min i sh) (i - sh)) := by
        rcases hAz with h | h
        · exact h
        · omega
      have hall := FF_all a b (min i sh) (i - sh)
      have HALL := Lib.hid hall
      clear hik hAz hall
      by_cases hs : i < sh
      · go_wp2_with fail
        refine (add_low r _ (a : Int) _ _ hS (by have := HALL.out; omega)).mono ?_
        rintro e w3 ⟨rfl, hR3, hg3⟩
        rw [FF_a, OO_a, show min i sh + 1 = min (i + 1) sh by omega, show i - sh = i + 1 - sh by omega] at hR3
        have hb3 := below_row hbz hrw hg3 hbz.size
        have hA3 : At w3 r a b sh (i + 1) := Or.inl ⟨by omega, hR3⟩
        clear hR3
        go_wp2_with fail
        go_roundg (gk - 1)
        case measure => have := HIK.out; omega
        case rel => exact ⟨i + 1, by go_num, by have := HIK.out; omega, hA3, hb3⟩
      · by_cases hl : i < 4095
        · go_wp2_with fail
          refine (add_low r _ (b : Int) _ _ hS (by have := HALL.out; omega)).mono ?_
          rintro e w3 ⟨rfl, hR3, hg3⟩
          rw [FF_b, OO_b, show i - sh + 1 = i + 1 - sh by omega, show min i sh = min (i + 1) sh by omega] at hR3
          have hb3 := below_row hbz hrw hg3 hbz.size
          have hA3 : At w3 r a b sh (i + 1) := Or.inl ⟨by omega, hR3⟩
          clear hR3
          go_wp2_with fail
          go_roundg (gk - 1)
          case measure => have := HIK.out; omega
          case rel => exact ⟨i + 1, by go_num, by have := HIK.out; omega, hA3, hb3⟩
        · go_wp2_with fail
          refine (add_full r _ (b : Int) _ _ hS (by omega) (by have := HALL.out; omega)).mono ?_
          rintro e w3 ⟨rfl, hR3, hg3⟩
          rw [FF_b, OO_b] at hR3
          have hb3 := below_row hbz hrw hg3 hbz.size
          have hA3 : At w3 r a b sh (i + 1) := Or.inr ⟨by omega, _, _, hR3, FF_half (by omega)⟩
          clear hR3
          go_wp2_with fail
          go_roundg (gk - 1)
          case measure => have := HIK.out; omega
          case rel => exact ⟨i + 1, by go_num, by have := HIK.out; omega, hA3, hb3⟩
    · obtain ⟨H, o, hS, hlo, hhi⟩ : ∃ H o, Hs wr r H o ∧ 2046 ≤ tot H + o ∧ tot H + o ≤ 2048 := by
        rcases hAz with h | h
        · omega
        · exact h.2
      clear hik HIK hAz
      obtain ⟨T, hT⟩ : ∃ T, tot H = T := ⟨_, rfl⟩
      rw [hT] at hlo hhi
      have HT := Lib.hid hT
      have d1 : decide ((2048 : Int) < (T : Int) + (o : Int)) = false := by simp; omega
      have d2 : decide ((T : Int) + (o : Int) < 2046) = false := by simp; omega
      clear hT
      go_wp2_with fail
      refine (histo_in r _ _ _ hS).mono ?_
      rintro e w6 ⟨rfl, rfl⟩
      rw [HT.out]
      go_wp2_with fail
      refine (histo_over r _ _ _ hS).mono ?_
      rintro e w6 ⟨rfl, rfl⟩
      go_wp2_with fail
      refine (histo_in r _ _ _ hS).mono ?_
      rintro e w6 ⟨rfl, rfl⟩
      rw [HT.out]
      go_wp2_with fail
      refine (histo_over r _ _ _ hS).mono ?_
      rintro e w6 ⟨rfl, rfl⟩
      go_wp2_with fail
      refine (histo_in r _ _ _ hS).mono ?_
      rintro e w6 ⟨rfl, rfl⟩
      rw [HT.out]
      go_wp2_with fail
      refine (histo_over r _ _ _ hS).mono ?_
      rintro e w6 ⟨rfl, rfl⟩
      go_wp2_with fail
      clear d1 d2
      go_loopg [12] more (fun gk vi wr => ∃ (j : Nat) (G : Nat → Nat) (p : Nat), vi = .int .i64 (j : Int) ∧ j + gk = more ∧ Hs wr r G p ∧ tot G + p = T + o + j ∧ Below w.heap.size w wr)
      case atStart => exact ⟨0, H, o, rfl, by omega, hS, by rw [HT.out]; rfl, hbz⟩
      case round =>
        clear hS hbz
        obtain ⟨j, G, p, rfl, hjk, hS, hsum, hbz⟩ := hrel
        have HJK := Lib.hid hjk
        have HSUM := Lib.hid hsum
        clear hsum
        by_cases hj : j < more
        · clear hjk
          go_wp2_with fail
          refine (add_low r _ (a : Int) _ _ hS (by have := HSUM.out; omega)).mono ?_
          rintro e w3 ⟨rfl, hR3, hg3⟩
          have hb3 := below_row hbz hrw hg3 hbz.size
          have hs3 := tot_aO G p (a : Int)
          rw [if_pos (by omega), HSUM.out] at hs3
          have HS3 := Lib.hid hs3
          clear hs3
          go_wp2_with fail
          go_roundg (gk - 1)
          case measure => have := HJK.out; omega
          case rel => exact ⟨j + 1, _, _, by go_num, by have := HJK.out; omega, hR3, by rw [HS3.out]; omega, hb3⟩
        · obtain rfl : more = j := by omega
          clear hjk HJK
          obtain ⟨U, hU⟩ : ∃ U, tot G = U := ⟨_, rfl⟩
          have hsum : U + p = T + o + more := by rw [← hU]; exact HSUM.out
          have hul : (U : Int) + (p : Int) = (T : Int) + (o : Int) + (more : Int) := by omega
          have HU := Lib.hid hU
          have HUL := Lib.hid hul
          have hub : (U : Int) + (p : Int) ≤ 4096 := by omega
          clear hU hsum hul
          go_wp2_with fail
          refine (histo_in r _ _ _ hS).mono ?_
          rintro e w6 ⟨rfl, rfl⟩
          rw [HU.out]
          go_wp2_with fail
          refine (histo_over r _ _ _ hS).mono ?_
          rintro e w6 ⟨rfl, rfl⟩
          go_wp2_with fail
          go_ret
          refine ⟨ret_bool ?_, hbz⟩
          have := HUL.out
          simp; omega
theorem halves_law (x0 x1 x2 x3 : Int) (w : World) :
    Calls Try.prog 4 #[.int .i64 x0, .int .i64 x1, .int .i64 x2, .int .i64 x3] w fun e w' => e = .returned (.bool true) ∧ Below w.heap.size w w' := halves_walk x0 x1 x2 x3 w
end Go.Proofs.Ytgaicojidomenaa.W
