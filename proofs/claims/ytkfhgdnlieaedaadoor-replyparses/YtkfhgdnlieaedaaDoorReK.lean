/- A walk of ReplyParses. Made by mk_rek.py. -/
import Derived.Test.YtkfhgdnlieaedaaDoorReG
import Derived.Test.YtkfhgdnlieaedaaDoorReH
import Derived.Test.YtkfhgdnlieaedaaDoorReL
import Derived.Deep.LoopGhost
namespace Go.Proofs.YtkfhgdnlieaedaaDoor.W
open Go.RowKit

theorem text_of (k b y e : Int) (l : List UInt8) (hno : ∀ a, okA a → txt a ≠ l) : ∃ s : List UInt8, (∀ w, Gl w → Calls Tryd.prog 8 #[.agg #[.int .i64 k, .int .i64 b, .int .i64 y, .int .i64 e]] w fun x w' => x = .returned (sv s) ∧ Below w.heap.size w w') ∧
    (((bst s).toList == (bst l).toList) = false ∨ (((bst s).toList == (bst l).toList) = true ∧ ((bst l).toList == []) = true)) := by
  by_cases h : okA ⟨k, b, y, e⟩
  · exact ⟨_, fun w hw => text_ok k b y e w hw h, .inl (by rw [sv_eq]; exact decide_eq_false (hno _ h))⟩
  · refine ⟨[], fun w hw => text_no k b y e w h, ?_⟩
    by_cases hl : l = []
    · exact .inr ⟨by rw [sv_eq, hl]; rfl, by rw [sv_lit, hl]; rfl⟩
    · exact .inl (by rw [sv_eq]; exact decide_eq_false (fun q => hl q.symm))
theorem no_word {l : List UInt8} (hno : ∀ a, okA a → txt a ≠ l) (n : Int) (h1 : 1 ≤ n) (h2 : n ≤ 19) :
    ((bst l).toList == ((⟨#[119, 97, 114, 109, 32]⟩ : ByteArray) ++ bst (Lib.itoa n)).toList) = false ∧ ((bst l).toList == ((⟨#[99, 111, 108, 100, 32]⟩ : ByteArray) ++ bst (Lib.itoa n)).toList) = false := by
  have e1 : (⟨#[119, 97, 114, 109, 32]⟩ : ByteArray) ++ bst (Lib.itoa n) = bst (txt ⟨2, n, 0, 0⟩) := bst_app [119, 97, 114, 109, 32] _
  have e2 : (⟨#[99, 111, 108, 100, 32]⟩ : ByteArray) ++ bst (Lib.itoa n) = bst (txt ⟨3, n, 0, 0⟩) := bst_app [99, 111, 108, 100, 32] _
  rw [e1, e2, sv_eq, sv_eq]
  exact ⟨decide_eq_false (fun q => hno ⟨2, n, 0, 0⟩ (by unfold okA; simp; omega) q.symm), decide_eq_false (fun q => hno ⟨3, n, 0, 0⟩ (by unfold okA; simp; omega) q.symm)⟩
set_option maxRecDepth 100000 in
set_option maxHeartbeats 1600000 in
theorem parses_long (l : List UInt8) (w : World) (hG : Gl w) (hlen : 200 < l.length) : Calls Tryd.prog 4 #[.string (bst l)] w fun x w' => x = .returned (.bool true) ∧ Below w.heap.size w w' := by
  have hz : (200 : Int) < ((bst l).size : Int) := by rw [bst_size]; omega
  go_enter Tryd.func4, Tryd.ntmps4
  go_wp2_with fail
  refine (head_any w hG).mono ?_
  rintro x w2 ⟨rfl, c2⟩
  have G2 := hG.below c2
  go_wp2_with fail
  go_ret
  exact ⟨rfl, c2⟩
set_option maxRecDepth 100000 in
set_option maxHeartbeats 1600000 in
theorem parses_yes (l : List UInt8) (w : World) (hG : Gl w) (hlen : l.length ≤ 200) (k b y e : Int) (ha : gs l = ⟨k, b, y, e⟩) (hok : okA ⟨k, b, y, e⟩) (heq : txt ⟨k, b, y, e⟩ = l) : Calls Tryd.prog 4 #[.string (bst l)] w fun x w' => x = .returned (.bool true) ∧ Below w.heap.size w w' := by
  have hz : ¬ (200 : Int) < ((bst l).size : Int) := by rw [bst_size]; omega
  have hz' : decide ((200 : Int) < ((bst l).size : Int)) = false := decide_eq_false hz
  clear hz
  have HP := Lib.hid (fun w hw => parse_yes l w (by omega) hw k b y e ha hok heq)
  have HT := Lib.hid (fun w hw => text_ok k b y e w hw hok)
  have hd : ((bst (txt ⟨k, b, y, e⟩)).toList == (bst l).toList) = true := by rw [sv_eq]; exact decide_eq_true heq
  have hE : ((bst l).toList == []) = false := by rw [sv_lit, ← heq]; exact decide_eq_false (txt_ne _)
  clear ha hok heq hlen
  go_enter Tryd.func4, Tryd.ntmps4
  go_wp2_with fail
  refine (head_any w hG).mono ?_
  rintro x w2 ⟨rfl, c2⟩
  have G2 := hG.below c2
  go_wp2_with fail
  refine (HP.out w2 G2).mono ?_
  rintro x w3 ⟨rfl, b3⟩
  have c3 : Below w.heap.size w w3 := c2.trans (b3.mono c2.size)
  have HM := Lib.hid (heap_alloc_new w3 (.cells #[.int .i64 0, .int .i64 0, .int .i64 0, .int .i64 0] 26))
  have b4 : Below w3.heap.size w3 (w3.alloc (.cells #[.int .i64 0, .int .i64 0, .int .i64 0, .int .i64 0] 26)) := (Below.refl _ _).alloc (Nat.le_refl _) _
  have c4 : Below w.heap.size w (w3.alloc (.cells #[.int .i64 0, .int .i64 0, .int .i64 0, .int .i64 0] 26)) := c3.trans (b4.mono c3.size)
  have LT := Lib.hid c3.size
  clear b4 c3
  go_wp2_with (with_reducible refine wpList_store_an rfl (.tmp 3) (.tmp 16) rfl w3.heap.size k b y e rfl rfl 0 0 0 0 HM ?_; intro w5 HG5 hg5; obtain ⟨t0, t1, t2, t3⟩ := an_cells (Hid.out HG5))
  have c5 : Below w.heap.size w w5 := below_row c4 LT.out hg5 c4.size
  have G5 := hG.below c5
  refine (HT.out w5 G5).mono ?_
  rintro x w6 ⟨rfl, b6⟩
  have c6 : Below w.heap.size w w6 := c5.trans (b6.mono c5.size)
  go_wp2_with fail
  go_ret
  exact ⟨rfl, c6⟩
set_option maxRecDepth 100000 in
set_option maxHeartbeats 1600000 in
theorem parses_no (l : List UInt8) (w : World) (hG : Gl w) (hlen : l.length ≤ 200) (hno : ¬ (okA (gs l) ∧ txt (gs l) = l)) : Calls Tryd.prog 4 #[.string (bst l)] w fun x w' => x = .returned (.bool true) ∧ Below w.heap.size w w' := by
  have hz : ¬ (200 : Int) < ((bst l).size : Int) := by rw [bst_size]; omega
  have hz' : decide ((200 : Int) < ((bst l).size : Int)) = false := decide_eq_false hz
  clear hz
  have HP := Lib.hid (fun w hw => parse_fail l w (by omega) hw hno)
  have HNO := Lib.hid (no_txt hno)
  have HL := Lib.hid hlen
  clear hno hlen
  go_enter Tryd.func4, Tryd.ntmps4
  go_wp2_with fail
  refine (head_any w hG).mono ?_
  rintro x w2 ⟨rfl, c2⟩
  have G2 := hG.below c2
  go_wp2_with fail
  refine (HP.out w2 G2).mono ?_
  rintro x w3 ⟨rfl, b3⟩
  have c3 : Below w.heap.size w w3 := c2.trans (b3.mono c2.size)
  have HM := Lib.hid (heap_alloc_new w3 (.cells #[.int .i64 0, .int .i64 0, .int .i64 0, .int .i64 0] 26))
  have b4 : Below w3.heap.size w3 (w3.alloc (.cells #[.int .i64 0, .int .i64 0, .int .i64 0, .int .i64 0] 26)) := (Below.refl _ _).alloc (Nat.le_refl _) _
  have c4 : Below w.heap.size w (w3.alloc (.cells #[.int .i64 0, .int .i64 0, .int .i64 0, .int .i64 0] 26)) := c3.trans (b4.mono c3.size)
  have LT := Lib.hid c3.size
  clear b4 c3
  go_wp2_with (with_reducible refine wpList_store_an rfl (.tmp 3) (.tmp 16) rfl w3.heap.size 0 0 0 0 rfl rfl 0 0 0 0 HM ?_; intro w5 HG5 hg5; obtain ⟨t0, t1, t2, t3⟩ := an_cells (Hid.out HG5))
  have c5 : Below w.heap.size w w5 := below_row c4 LT.out hg5 c4.size
  have G5 := hG.below c5
  clear t0 t1 t2 t3
  have HGW := Lib.hid (fun wr (q : Below w.heap.size w wr) => hG.below q)
  clear c2 G2 b3 c4 hg5 G5
  go_loopg [5] 5 (fun gk vi wr => ∃ i : Nat, vi = .int .i64 (i : Int) ∧ i + gk = 5 ∧ Below w.heap.size w wr)
  case atStart => exact ⟨0, rfl, by omega, c5⟩
  case round =>
    clear c5
    obtain ⟨i, rfl, hik, bz⟩ := hrel
    have HIK := Lib.hid hik
    by_cases hi : i < 5
    · have hii : (i : Int) < 5 := by omega
      clear hik
      go_wp2_with fail
      go_loopg [6] 7 (fun gk vi wr => ∃ j : Nat, vi = .int .i64 (j : Int) ∧ j + gk = 7 ∧ Below w.heap.size w wr)
      case atStart => exact ⟨0, rfl, by omega, bz⟩
      case round =>
        clear bz
        obtain ⟨j, rfl, hjk, bz⟩ := hrel
        have HJK := Lib.hid hjk
        by_cases hj : j < 7
        · have hjj : (j : Int) < 7 := by omega
          clear hjk
          obtain ⟨s1, h1, e1⟩ := text_of i 0 j 0 l HNO.out
          obtain ⟨s2, h2, e2⟩ := text_of i 0 0 j l HNO.out
          have T1 := Lib.hid h1
          have T2 := Lib.hid h2
          clear h1 h2
          go_wp2_with fail
          refine (T1.out wr (HGW.out _ bz)).mono ?_
          rintro x w6 ⟨rfl, b6⟩
          have c6 : Below w.heap.size w w6 := bz.trans (b6.mono bz.size)
          clear bz b6
          rcases e1 with e1 | ⟨e1, e1'⟩
          all_goals
            go_wp2_with fail
            refine (T2.out w6 (HGW.out _ c6)).mono ?_
            rintro x w7 ⟨rfl, b7⟩
            have c7 : Below w.heap.size w w7 := c6.trans (b7.mono c6.size)
            clear c6 b7
            rcases e2 with e2 | ⟨e2, e2'⟩
            all_goals
              go_wp2_with fail
              go_roundg (7 - (j + 1))
              case measure => have := HJK.out; omega
              case rel => exact ⟨j + 1, by go_num, by have := HJK.out; omega, c7⟩
        · obtain rfl : j = 7 := by omega
          clear hjk HJK hj
          go_wp2_with fail
          go_roundg (5 - (i + 1))
          case measure => have := HIK.out; omega
          case rel => exact ⟨i + 1, by go_num, by have := HIK.out; omega, bz⟩
    · obtain rfl : i = 5 := by omega
      clear hik HIK hi
      go_wp2_with fail
      go_loopg [7] 19 (fun gk vi wr => ∃ j : Nat, vi = .int .i64 ((j : Int) + 1) ∧ j + gk = 19 ∧ Below w.heap.size w wr)
      case atStart => exact ⟨0, rfl, by omega, bz⟩
      case round =>
        clear bz
        obtain ⟨j, rfl, hjk, bz⟩ := hrel
        have HJK := Lib.hid hjk
        by_cases hj : j < 19
        · have hjj : (j : Int) + 1 < 20 := by omega
          obtain ⟨d1, d2⟩ := no_word HNO.out ((j : Int) + 1) (by omega) (by omega)
          have hlen := itoa_len ((j : Int) + 1) (by omega) (by omega)
          have hz1 : ¬ 9223372036854775807 < 5 + (bst (Lib.itoa ((j : Int) + 1))).size := by rw [bst_size]; omega
          have HI := Lib.hid (fun wr hw => itoa_any ((j : Int) + 1) wr (by omega) (by omega) hw)
          clear hjk hlen
          go_wp2_with fail
          refine (HI.out wr (HGW.out _ bz)).mono ?_
          rintro x w6 ⟨rfl, b6⟩
          have c6 : Below w.heap.size w w6 := bz.trans (b6.mono bz.size)
          clear bz b6
          go_wp2_with fail
          refine (HI.out w6 (HGW.out _ c6)).mono ?_
          rintro x w7 ⟨rfl, b7⟩
          have c7 : Below w.heap.size w w7 := c6.trans (b7.mono c6.size)
          clear c6 b7
          go_wp2_with fail
          go_roundg (19 - (j + 1))
          case measure => have := HJK.out; omega
          case rel => exact ⟨j + 1, by go_num, by have := HJK.out; omega, c7⟩
        · obtain rfl : j = 19 := by omega
          clear hjk HJK hj
          go_wp2_with fail
          go_ret
          exact ⟨rfl, bz⟩
theorem parses_walk (l : List UInt8) (w : World) (hG : Gl w) : Calls Tryd.prog 4 #[.string (bst l)] w fun x w' => x = .returned (.bool true) ∧ Below w.heap.size w w' := by
  by_cases hlen : l.length ≤ 200
  · by_cases h : okA (gs l) ∧ txt (gs l) = l
    · obtain ⟨⟨k, b, y, e⟩, ha⟩ : ∃ a, gs l = a := ⟨_, rfl⟩
      rw [ha] at h
      exact parses_yes l w hG hlen k b y e ha h.1 h.2
    · exact parses_no l w hG hlen h
  · exact parses_long l w hG (by omega)

end Go.Proofs.YtkfhgdnlieaedaaDoor.W
