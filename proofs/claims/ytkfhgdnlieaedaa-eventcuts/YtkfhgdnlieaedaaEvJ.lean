/- Contracts of the law's bytes and head. -/
import Derived.Test.YtkfhgdnlieaedaaEvI
import Derived.Test.YtkfhgdnlieaedaaWireG
import Derived.Test.YtkfhgdnlieaedaaWireI
namespace Go.Proofs.Ytkfhgdnlieaedaa.W
open Go.RowKit

theorem own_base {w : World} {b b' : Nat} {e : TypeId} {g n cap : Nat} {vs : List Value} (h : w.ownsRow b e 1 (.slice (some ⟨g, 0, none⟩) n cap) n vs) (hb : b' ≤ b) : w.ownsRow b' e 1 (.slice (some ⟨g, 0, none⟩) n cap) n vs := by
  obtain ⟨h1, h2⟩ := h
  refine ⟨h1, ?_⟩
  rcases h2 with h2 | ⟨g1, cap1, cur, hv, hb1, r⟩
  · exact Or.inl h2
  · exact Or.inr ⟨g1, cap1, cur, hv, Nat.le_trans hb hb1, r⟩

theorem Off.next {w w' : World} {g g' : Nat} {A : Option Addr} {vs : List Value} (h : Off w g A vs) (hg : w.grownBy w' (some g)) (hat : g = g' ∨ w.heap.size ≤ g') : Off w' g' A vs := by
  have h2 := h.grown hg
  rcases hat with rfl | q
  · exact h2
  · intro j u hu
    obtain ⟨ad, e, h1, _, _⟩ := h j u hu
    obtain ⟨ad', e', h1', _, h3'⟩ := h2 j u hu
    rw [e] at e'; cases e'
    exact ⟨ad, e, h1', by omega, h3'⟩
theorem Off.nat {w : World} {g : Nat} {A : Option Addr} {ns : List Nat} (h : Off w g A (ints (ints_ ns))) {i : Nat} (hi : i < ns.length) : ∃ ad n, A = some ad ∧ ns[i]? = some n ∧ w.cell? (ad.add i) = some (.int .i64 (n : Int)) := by
  obtain ⟨ad, e, _, _, h3⟩ := h i (.int .i64 (ns[i] : Int)) (by unfold ints_; simp [hi])
  exact ⟨ad, ns[i], e, List.getElem?_eq_getElem hi, h3⟩
theorem IL.off {w : World} {B g : Nat} {A : Option Addr} {xs : List Int} (h : IL w B A xs) (hg : g < B) : Off w g A (ints xs) := by
  rcases h with ⟨rfl, rfl⟩ | ⟨g', rfl, h1, h2⟩
  · intro j u hu; simp at hu
  · intro j u hu
    exact ⟨_, rfl, lt_of_row h2, by show g' ≠ g; omega, by rw [add_lit0]; exact cellL h2 j u hu⟩

set_option maxRecDepth 100000 in
set_option maxHeartbeats 3200000 in
theorem lbytes_any (k n l s r a m c v p : Int) (w : World) (hr : right ⟨k, n, l, s, r, a, m, c, v, p⟩) : Calls Try.prog 12 #[.agg #[.int .i64 k, .int .i64 n, .int .i64 l, .int .i64 s, .int .i64 r, .int .i64 a, .int .i64 m, .int .i64 c, .int .i64 v, .int .i64 p]] w (NewB w (evB ⟨k, n, l, s, r, a, m, c, v, p⟩)) := by
  obtain ⟨i0, hi0, hz0, hz1, hz2⟩ := info_parts infoB1
  have HR := Lib.hid hr
  obtain ⟨q, hq⟩ : ∃ q : Nat, k = (q : Int) := ⟨k.toNat, by have := hr.1; simp at this; omega⟩
  have hq9 : q ≤ 9 := by have := hr.2.1; simp at this; omega
  obtain ⟨g1, g2⟩ := enc_nums hr
  obtain ⟨ns, hns⟩ : ∃ ns, (nums ⟨k, n, l, s, r, a, m, c, v, p⟩).map Int.toNat = ns := ⟨_, rfl⟩
  rw [hns] at g1 g2
  have hev : evB ⟨k, n, l, s, r, a, m, c, v, p⟩ = enc q ++ encs ns := by unfold evB; rw [hns]; simp [hq]
  rw [hev]
  have HG1 := Lib.hid g1
  have HG2 := Lib.hid g2
  have hlen : ns.length ≤ 6 := by rw [← hns, List.length_map, nums_len]; exact cnt_le _
  have HN6 := Lib.hid hlen
  have hokd : Hid (true = decide (0 ≤ k ∧ k ≤ 9)) := Lib.hid (by have h1 := hr.1; have h2 := hr.2.1; simp at h1 h2; simp; omega)
  clear hr hns g1 g2 hev hlen
  subst hq
  go_enter Try.func12, Try.ntmps12
  go_wp2_with fail
  have hbox := heap_alloc_new w (.cells #[.int .i64 (q : Int), .int .i64 n, .int .i64 l, .int .i64 s, .int .i64 r, .int .i64 a, .int .i64 m, .int .i64 c, .int .i64 v, .int .i64 p] 27)
  have b1 : Below w.heap.size w (w.alloc (.cells #[.int .i64 (q : Int), .int .i64 n, .int .i64 l, .int .i64 s, .int .i64 r, .int .i64 a, .int .i64 m, .int .i64 c, .int .i64 v, .int .i64 p] 27)) := (Below.refl _ _).alloc (Nat.le_refl _) _
  obtain ⟨g0, hg0⟩ : ∃ g0, w.heap.size = g0 := ⟨_, rfl⟩
  rw [hg0] at hbox b1
  try rw [hg0]
  generalize w.alloc (.cells #[.int .i64 (q : Int), .int .i64 n, .int .i64 l, .int .i64 s, .int .i64 r, .int .i64 a, .int .i64 m, .int .i64 c, .int .i64 v, .int .i64 p] 27) = w1 at hbox b1 ⊢
  refine (bytes_any q w1 (by omega)).mono ?_
  rintro e w3 ⟨g, cap, m3, HM3, rfl, own3, hb3⟩
  have b3 : Below g0 w w3 := b1.trans (hb3.mono (by have := b1.size; omega))
  have hbox3 := (Only.of_below (S := fun _ => False) hb3).blk (fun q => q) hbox
  have own3b := own_base own3 (show g0 ≤ w1.heap.size by have := b1.size; omega)
  obtain ⟨t0, t1, t2, t3, t4, t5, t6, t7, t8, t9, _⟩ := ten_of hbox3
  clear own3 hb3 hbox b1
  go_wp2_with fail
  refine (lnumbers_any (q : Int) n l s r a m c v p true w3 hokd.out).mono ?_
  rintro e w4 ⟨A4, L, HL, rfl, hIL, hb4⟩
  rw [← HG1.out] at HL hIL
  have b4 : Below g0 w w4 := b3.trans (hb4.mono (by have := b3.size; omega))
  have own4 := own_below own3b hb4 (Nat.le_refl _)
  have hL6 : L ≤ 6 := by rw [HL.out]; unfold ints_; rw [List.length_map]; exact HN6.out
  have HIL := Lib.hid hIL
  have hgl : g < w3.heap.size := (own_cap own3b).2.1
  have hm3 : m3 ≤ 10 := by rw [HM3.out]; exact enc_ten (by omega)
  have hs4 : g0 ≤ w4.heap.size := by have := b4.size; omega
  clear t0 t1 t2 t3 t4 t5 t6 t7 t8 t9 hbox3 hb4 own3b hIL b3
  go_wp2_with fail
  go_loopg [3, 19] L (fun gk vo vi wr => ∃ (i g5 k5 c5 : Nat), vi = .int .i64 (i : Int) ∧ vo = .slice (some ⟨g5, 0, none⟩) k5 c5 ∧ i + gk = L ∧ k5 ≤ 10 + 10 * i ∧ Hid (k5 = (enc q ++ encs (ns.take i)).length) ∧ wr.ownsRow g0 5 1 (.slice (some ⟨g5, 0, none⟩) k5 c5) k5 ((enc q ++ encs (ns.take i)).map bv) ∧ Below g0 w wr ∧ Off wr g5 A4 (ints (ints_ ns)))
  case atStart => exact ⟨0, g, m3, cap, rfl, rfl, by omega, by omega, by show _ = _; rw [HM3.out]; simp [encs], by simpa [encs] using own4, b4, HIL.out.off hgl⟩
  case round =>
    clear own4 b4
    obtain ⟨i, g5, k5, c5, rfl, rfl, hik, hk5, HK5, own5, b5, hoff⟩ := hrel
    have HIK := Lib.hid hik
    have hs5 := b5.size
    by_cases hi : i < L
    · obtain ⟨ad, x, rfl, hx, cx⟩ := hoff.nat (i := i) (by have := HL.out; unfold ints_ at this; rw [List.length_map] at this; omega)
      have hx31 : x ≤ 2147483647 := HG2.out x (List.mem_of_getElem? hx)
      have HX := Lib.hid hx
      have hli : (i : Int) < (L : Int) := by omega
      have hen := enc_ten (n := x) (by omega)
      obtain ⟨lx, hlx⟩ : ∃ l, (enc x).length = l := ⟨_, rfl⟩
      rw [hlx] at hen
      have HLX := Lib.hid hlx
      clear hik hx hlx
      go_wp2_with fail
      refine (bytes_any x wr (by omega)).mono ?_
      rintro e w6 ⟨g6, cap6, m6, HM6, rfl, own6, hb6⟩
      obtain rfl : lx = m6 := HLX.out.symm.trans HM6.out.symm
      have own5b := own_below own5 hb6 (Nat.le_refl _)
      have hoff6 := hoff.below hb6
      have hs6 := hb6.size
      go_wp2_with (at_builtin; refine wpList_appN rfl _ _ 24 rfl g0 5 i0 (.int .u8 0) 1 Try.underlying24 hi0 hz0 hz1 hz2 rfl g5 k5 c5 ((enc q ++ encs (ns.take i)).map bv) rfl own5b (some ⟨g6, 0, none⟩) lx cap6 w6.heap.size ((enc x).map bv) rfl (by simp [HLX.out]) (lies_own own6) (ones_u8 _) (by omega) (by omega) (by omega) ?_; intro g7 cap7 w7 own7 hg7 hat7 hlt7)
      have b7 : Below g0 w w7 := (b5.trans (hb6.mono (by omega))).grown hg7 (by omega) (fun j hj => by injection hj with hj; have := (own_cap own5b).2.2; omega)
      rw [← List.map_append, ← evB_take HX.out] at own7
      go_roundg (gk - 1)
      case measure => have := HIK.out; omega
      case rel => exact ⟨i + 1, g7, k5 + lx, cap7, by go_num, rfl, by have := HIK.out; omega, by omega, by show _ = _; rw [evB_take HX.out, List.length_append, ← HK5.out, HLX.out], own7, b7, hoff6.next hg7 hat7⟩
    · obtain rfl : i = L := by omega
      have hall : ns.take i = ns := List.take_of_length_le (by have := HL.out; unfold ints_ at this; rw [List.length_map] at this; omega)
      rw [hall] at HK5 own5
      clear hik HIK hall hoff
      go_wp2_with fail
      go_ret
      subst hg0
      exact ⟨g5, c5, k5, HK5, rfl, own5, b5⟩

theorem evB_call : evB ⟨6, 5, 0, 0, 0, 0, 0, 0, 0, 0⟩ = [6, 5] := by
  simp [evB, nums, encs, enc_small]
theorem right_call : right ⟨6, 5, 0, 0, 0, 0, 0, 0, 0, 0⟩ := by
  refine ⟨by decide, by decide, by simp [nums], by rfl⟩

set_option maxRecDepth 100000 in
set_option maxHeartbeats 3200000 in
theorem head16 (w : World) : Calls Try.prog 8 #[] w fun e w' => e = .returned (.bool true) ∧ Below w.heap.size w w' := by
  have hp := put_yes none 0 0 6 5 0 0 0 0 0 0 0 0 [] w rfl (Lies.nil _ _ _) (by omega) right_call
  rw [evB_call] at hp
  have HP := Lib.hid hp
  obtain ⟨x1, x2, x3⟩ := nx_enc right_call [] []
  rw [evB_call] at x1 x2 x3
  have HX := Lib.hid (And.intro x1 (And.intro x2 x3))
  clear hp x1 x2 x3
  go_enter Try.func8, Try.ntmps8
  go_wp2_with fail
  refine HP.out.mono ?_
  rintro e w1 ⟨A, m, c, HM, rfl, hmc, hcm, hL, hbl, b1⟩
  obtain rfl : m = 2 := HM.out
  obtain ⟨ad, rfl, hab, hc⟩ := hL.some_ (by simp)
  have c0 : w1.cell? ad = some (bv 6) := by have := hc 0 _ rfl; simpa [Addr.add] using this
  have c1 : w1.cell? ⟨ad.block, ad.off + 1, none⟩ = some (bv 5) := by have := hc 1 _ rfl; simpa [Addr.add] using this
  have HL := Lib.hid hL
  clear hc hL HM
  go_wp2_with fail
  refine (get_ok (some ad) 2 c [6, 5] w1 rfl hmc HL.out (by decide) (by decide) HX.out.2.2).mono ?_
  rintro e w2 ⟨rfl, b2⟩
  have hE : nxE (List.take 70 [6, 5]) 0 = ⟨6, 5, 0, 0, 0, 0, 0, 0, 0, 0⟩ := HX.out.1
  have hN : nxA (List.take 70 [6, 5]) 0 = 2 := HX.out.2.1
  rw [hE, hN]
  clear hE hN c0 c1 HX HP HL
  go_wp2_with fail
  go_ret
  exact ⟨rfl, (b1.trans (b2.mono b1.size)).alloc (Nat.le_trans b1.size b2.size) _⟩

end Go.Proofs.Ytkfhgdnlieaedaa.W
