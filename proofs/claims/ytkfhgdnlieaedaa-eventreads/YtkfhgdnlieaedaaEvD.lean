/- A contract of event.Put of what can be written. -/
import Derived.Test.YtkfhgdnlieaedaaEvC
namespace Go.Proofs.Ytkfhgdnlieaedaa.W
open Go.RowKit

set_option maxRecDepth 100000 in
set_option maxHeartbeats 3200000 in
theorem put_yes (A : Option Addr) (K C : Nat) (k n l s r a m c v p : Int) (bs : List Nat) (w : World) (hK : K = bs.length) (hA : Lies w w.heap.size A (bs.map bv)) (hl : K ≤ 1000000) (hr : right ⟨k, n, l, s, r, a, m, c, v, p⟩) :
    Calls Try.prog 11 #[.slice A K C, .agg #[.int .i64 k, .int .i64 n, .int .i64 l, .int .i64 s, .int .i64 r, .int .i64 a, .int .i64 m, .int .i64 c, .int .i64 v, .int .i64 p]] w (NewL w (bs ++ evB ⟨k, n, l, s, r, a, m, c, v, p⟩)) := by
  have HK := Lib.hid hK
  have HR := Lib.hid hr
  obtain ⟨q, hq⟩ : ∃ q : Nat, k = (q : Int) := ⟨k.toNat, by have := hr.1; simp at this; omega⟩
  have hq9 : q ≤ 9 := by have := hr.2.1; simp at this; omega
  obtain ⟨g1, g2⟩ := enc_nums hr
  obtain ⟨ns, hns⟩ : ∃ ns, (nums ⟨k, n, l, s, r, a, m, c, v, p⟩).map Int.toNat = ns := ⟨_, rfl⟩
  rw [hns] at g1 g2
  have hev : evB ⟨k, n, l, s, r, a, m, c, v, p⟩ = enc q ++ encs ns := by unfold evB; rw [hns]; simp [hq]
  rw [hev]
  have HG1 := Lib.hid g1
  have HG2 := Lib.hid g2
  have hlen : ns.length ≤ 6 := by rw [← hns, List.length_map, nums_len]; exact cnt_le _
  have HN6 := Lib.hid hlen
  have HQ := Lib.hid hq
  clear hK hr hns g1 g2 hev hlen hq
  go_enter Try.func11, Try.ntmps11
  go_wp2_with fail
  refine (right_any k n l s r a m c v p _ true ⟨fun _ => HR.out, fun _ => rfl⟩).mono ?_
  rintro e w2 ⟨rfl, hb2⟩
  have hbox := heap_alloc_new w (.cells #[.int .i64 k, .int .i64 n, .int .i64 l, .int .i64 s, .int .i64 r, .int .i64 a, .int .i64 m, .int .i64 c, .int .i64 v, .int .i64 p] 27)
  have b1 : Below w.heap.size w (w.alloc (.cells #[.int .i64 k, .int .i64 n, .int .i64 l, .int .i64 s, .int .i64 r, .int .i64 a, .int .i64 m, .int .i64 c, .int .i64 v, .int .i64 p] 27)) := (Below.refl _ _).alloc (Nat.le_refl _) _
  have b2 : Below w.heap.size w w2 := b1.trans (hb2.mono (by simp))
  have hbox2 := (Only.of_below (S := fun _ => False) hb2).blk (fun q => q) hbox
  obtain ⟨t0, _⟩ := ten_of hbox2
  clear hb2 b1 hbox
  have hq := HQ.out
  clear HQ
  subst hq
  go_wp2_with fail
  refine (put_nil q w2 (by omega)).mono ?_
  rintro e w3 ⟨g, cap, m3, HM3, rfl, own3, hb3⟩
  have b3 : Below w.heap.size w w3 := b2.trans (hb3.mono b2.size)
  have hbox3 := (Only.of_below (S := fun _ => False) hb3).blk (fun q => q) hbox2
  have L3 := lies_own own3
  clear t0 hbox2 own3 hb3
  obtain ⟨t0, t1, t2, t3, t4, t5, t6, t7, t8, t9, _⟩ := ten_of hbox3
  go_wp2_with fail
  refine (numbers_any (q : Int) n l s r a m c v p w3).mono ?_
  rintro e w4 ⟨A4, L, HL, rfl, hIL, hb4⟩
  rw [← HG1.out] at HL hIL
  have b4 : Below w.heap.size w w4 := b3.trans (hb4.mono b3.size)
  have L4 := (L3.below hb4 (Nat.le_refl _)).more hb4.size
  have hL6 : L ≤ 6 := by rw [HL.out]; unfold ints_; rw [List.length_map]; exact HN6.out
  have HIL := Lib.hid hIL
  have hm3 : m3 ≤ 10 := by rw [HM3.out]; exact enc_ten (by omega)
  clear t0 t1 t2 t3 t4 t5 t6 t7 t8 t9 hbox3 hb4 L3 hIL
  go_wp2_with fail
  go_loopg [5, 18] L (fun gk vo vi wr => ∃ (i : Nat) (A5 : Option Addr) (k5 c5 : Nat), vi = .int .i64 (i : Int) ∧ vo = .slice A5 k5 c5 ∧ i + gk = L ∧ k5 ≤ 10 + 10 * i ∧ Hid (k5 = (enc q ++ encs (ns.take i)).length) ∧ Lies wr wr.heap.size A5 ((enc q ++ encs (ns.take i)).map bv) ∧ Below w4.heap.size w4 wr)
  case atStart => exact ⟨0, _, m3, cap, rfl, rfl, by omega, by omega, by show _ = _; rw [HM3.out]; simp [encs], by simpa [encs] using L4, Below.refl _ _⟩
  case round =>
    clear L4
    obtain ⟨i, A5, k5, c5, rfl, rfl, hik, hk5, HK5, L5, bel⟩ := hrel
    have HIK := Lib.hid hik
    by_cases hi : i < L
    · have hin : i < ns.length := by have := HL.out; unfold ints_ at this; rw [List.length_map] at this; omega
      obtain ⟨g6, x, rfl, hg6, hg6l, hx, cx⟩ := HIL.out.num hin
      have cx5 : wr.cell? ⟨g6, i, none⟩ = some (.int .i64 (x : Int)) := (Only.of_below (S := fun _ => False) bel).cell (fun q => q) cx
      have hx31 : x ≤ 2147483647 := HG2.out x (List.mem_of_getElem? hx)
      have HX := Lib.hid hx
      have hli : (i : Int) < (L : Int) := by omega
      clear hik cx hx
      go_wp2_with fail
      refine (put_any A5 k5 c5 x (enc q ++ encs (ns.take i)) wr HK5.out L5 (by omega) (by omega)).mono ?_
      rintro e w5 ⟨g7, cap7, m7, HM7, rfl, own7, hb7⟩
      rw [← evB_take HX.out] at HM7 own7
      have hm7 : m7 ≤ 10 + 10 * (i + 1) := by
        have h1 := HM7.out
        rw [evB_take HX.out, List.length_append, ← HK5.out] at h1
        have h2 := enc_ten (n := x) (by omega)
        omega
      go_wp2_with fail
      go_roundg (gk - 1)
      case measure => have := HIK.out; omega
      case rel => exact ⟨i + 1, _, m7, cap7, by go_num, rfl, by have := HIK.out; omega, hm7, HM7, lies_own own7, bel.trans (hb7.mono bel.size)⟩
    · obtain rfl : i = L := by omega
      have hall : ns.take i = ns := List.take_of_length_le (by have := HL.out; unfold ints_ at this; rw [List.length_map] at this; omega)
      rw [hall] at HK5 L5
      have b5 : Below w.heap.size w wr := b4.trans (bel.mono b4.size)
      have LA := hA.below b5 (Nat.le_refl _)
      clear hik HIK hall
      go_wp2_with fail
      refine (tail_any A A5 K C k5 c5 bs (enc q ++ encs ns) wr HK.out HK5.out (LA.more b5.size) L5 (by omega) (by omega)).mono ?_
      rintro e w6 h6
      obtain ⟨A7, m8, c8, HM8, rfl, hmc, hcm, hL8, hbl, hb8⟩ := h6
      go_wp2_with fail
      go_ret
      exact ⟨A7, m8, c8, HM8, rfl, hmc, hcm, hL8, fun ad q => Nat.le_trans b5.size (hbl ad q), b5.trans (hb8.mono b5.size)⟩

end Go.Proofs.Ytkfhgdnlieaedaa.W
