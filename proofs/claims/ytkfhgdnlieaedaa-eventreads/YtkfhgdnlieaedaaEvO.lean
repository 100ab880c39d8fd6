/- The laws EventMany and EventCuts: their walks. -/
import Derived.Test.YtkfhgdnlieaedaaEvK
import Derived.Test.YtkfhgdnlieaedaaEvN
namespace Go.Proofs.Ytkfhgdnlieaedaa.W
open Go.RowKit

theorem lies_full {w : World} {g n : Nat} {t : TypeId} (h : w.heap[g]? = some (.cells (List.replicate n (Value.int .u8 0)).toArray t (0, 0))) : Lies w w.heap.size (some ⟨g, 0, none⟩) ((List.replicate n 0).map bv) := by
  intro j u hu
  refine ⟨_, rfl, lt_of_row h, ?_⟩
  rw [add_lit0]
  refine cellL h j u ?_
  rw [List.map_replicate] at hu
  exact hu
theorem rep_byte (n : Nat) : ∀ x ∈ List.replicate n 0, x < 256 := fun x hx => by rw [(List.mem_replicate.1 hx).2]; omega

set_option maxRecDepth 100000 in
set_option maxHeartbeats 1000000 in
theorem emany_walk (x : Int) (w : World) : Calls Try.prog 6 #[.int .i64 x] w fun e w' => e = .returned (.bool true) ∧ Below w.heap.size w w' := by
  obtain ⟨i0, hi, hz0, hz1, hz2⟩ := info_parts infoB1
  obtain ⟨q, hq, hq8⟩ := and_nat x 7 3 8 (by decide) (by decide) (by decide)
  obtain ⟨n, hn⟩ : ∃ n, 16381 + q = n := ⟨_, rfl⟩
  have hni : 16381 + (q : Int) = (n : Int) := by omega
  have hn1 : n ≤ 16388 := by omega
  have HNI := Lib.hid hni
  go_enter Try.func6, Try.ntmps6
  go_wp2_with fail
  refine (head16 _).mono ?_
  rintro e w1 ⟨rfl, b1⟩
  clear hn hq8
  go_upto_region 4 with (fail)
  try rw [HNI.out]
  clear hq hni HNI
  go_wp2_with (at_make; refine wpList_make_row rfl _ _ 24 rfl 5 i0 (.int .u8 0) Try.underlying24 hi hz0 hz1 rfl _ _ (n : Int) (n : Int) n n rfl rfl (by omega) (by omega) (by omega) (by rw [hz2]; omega) (by omega) ?_; intro w2 HG hg2 hs2)
  have b2 : Below w.heap.size w w2 := b1.trans ((grown_below hg2).mono b1.size)
  refine (all_any _ n n (List.replicate n 0) w2 (by simp) (lies_full HG.out) (rep_byte n) (by omega)).mono ?_
  rintro e w5 ⟨l, n2, b, er, c5, A5, G5, T5, rfl, HN2, HALL, its5, HP5, hG5, b5⟩
  have b6 : Below w.heap.size w w5 := b2.trans (b5.mono b2.size)
  have hcase := many_is HALL.out
  rw [← HN2.out] at hcase
  clear HALL HN2 its5 HP5 hG5 b5 b2 b1 hg2 hs2 HG
  rcases hcase with ⟨h1, rfl, rfl, rfl⟩ | ⟨h1, rfl, rfl, rfl⟩
  · have hd : decide (16384 < (n2 : Int)) = false := by simp; omega
    go_wp2_with fail
    go_ret
    exact ⟨rfl, b6⟩
  · have hd : (16384 : Int) < (n : Int) := by omega
    go_wp2_with fail
    go_ret
    exact ⟨rfl, b6⟩

theorem cut_at' (cut : Int) (l : Nat) (l1 : 1 ≤ l) (l2 : l ≤ 1000) : ∃ q : Nat, wrap64 ((IntKind.u64.wrap cut).tmod (l : Int)) = (q : Int) ∧ q < l := by
  have h0 : 0 ≤ IntKind.u64.wrap cut := by rw [IntKind.wrap_u64]; omega
  have e := Int.tmod_eq_emod_of_nonneg (b := (l : Int)) h0
  have a1 := Int.emod_nonneg (IntKind.u64.wrap cut) (show (l : Int) ≠ 0 by omega)
  have a2 := Int.emod_lt_of_pos (IntKind.u64.wrap cut) (show 0 < (l : Int) by omega)
  refine ⟨(IntKind.u64.wrap cut % (l : Int)).toNat, ?_, by omega⟩
  rw [e, IntWalk.wrap64_in _ ⟨by omega, by omega⟩]; omega

set_option maxRecDepth 100000 in
set_option maxHeartbeats 1000000 in
theorem ecuts_walk (k n l s r a m c v p cut : Int) (a2 : Option Addr) (k2 c2 : Nat) (ms : List Nat) (w : World) (hk2 : k2 = ms.length) (hA : Lies w w.heap.size a2 (ms.map bv)) (hms : ∀ x ∈ ms, x < 256) (hm2 : k2 ≤ 9223372036854775807) :
    Calls Try.prog 5 #[.agg #[.int .i64 k, .int .i64 n, .int .i64 l, .int .i64 s, .int .i64 r, .int .i64 a, .int .i64 m, .int .i64 c, .int .i64 v, .int .i64 p], .int .i64 cut, .slice a2 k2 c2] w fun e w' => e = .returned (.bool true) ∧ Below w.heap.size w w' := by
  obtain ⟨i0, hi, hz0, hz1, hz2⟩ := info_parts infoB1
  have HK2 := Lib.hid hk2
  have HMS := Lib.hid hms
  clear hk2 hms
  by_cases hr : right ⟨k, n, l, s, r, a, m, c, v, p⟩
  · by_cases h60 : 60 < k2
    · have HR := Lib.hid hr
      clear hr
      go_enter Try.func5, Try.ntmps5
      have hbox := heap_alloc_new w (.cells #[.int .i64 k, .int .i64 n, .int .i64 l, .int .i64 s, .int .i64 r, .int .i64 a, .int .i64 m, .int .i64 c, .int .i64 v, .int .i64 p] 27)
      have b1 : Below w.heap.size w (w.alloc (.cells #[.int .i64 k, .int .i64 n, .int .i64 l, .int .i64 s, .int .i64 r, .int .i64 a, .int .i64 m, .int .i64 c, .int .i64 v, .int .i64 p] 27)) := (Below.refl _ _).alloc (Nat.le_refl _) _
      go_wp2_with fail
      obtain ⟨e0, he0⟩ : ∃ e0, w.heap.size = e0 := ⟨_, rfl⟩
      rw [he0] at hbox
      try rw [he0]
      generalize w.alloc (.cells #[.int .i64 k, .int .i64 n, .int .i64 l, .int .i64 s, .int .i64 r, .int .i64 a, .int .i64 m, .int .i64 c, .int .i64 v, .int .i64 p] 27) = w1 at hbox b1 ⊢
      refine (head16 _).mono ?_
      rintro e w2 ⟨rfl, b2⟩
      have hbox2 := (Only.of_below (S := fun _ => False) b2).blk (fun q => q) hbox
      have b12 : Below w.heap.size w w2 := b1.trans (b2.mono b1.size)
      have ⟨t0, t1, t2, t3, t4, t5, t6, t7, t8, t9, _⟩ := ten_of hbox2
      clear hbox b1 b2 hbox2
      go_wp2_with fail
      refine (lright_any k n l s r a m c v p w2 true ⟨fun _ => HR.out, fun _ => rfl⟩).mono ?_
      rintro e w3 ⟨rfl, b3⟩
      clear t0 t1 t2 t3 t4 t5 t6 t7 t8 t9
      have b13 : Below w.heap.size w w3 := b12.trans (b3.mono b12.size)
      go_wp2_with fail
      go_ret
      first | exact ⟨rfl, b13⟩ | exact ⟨rfl, by rw [← he0]; exact b13⟩
    · have HR := Lib.hid hr
      obtain ⟨le, hle⟩ : ∃ le, (evB ⟨k, n, l, s, r, a, m, c, v, p⟩).length = le := ⟨_, rfl⟩
      have l1 : 1 ≤ le := by rw [← hle]; exact evB_pos _
      have l2 : le ≤ 31 := by rw [← hle]; exact evB_len hr
      obtain ⟨q, hq, hql⟩ := cut_at' cut le l1 (by omega)
      have HLE := Lib.hid hle
      have HCUT := Lib.hid (nx_cut hr (by rw [hle]; exact hql))
      have hpx : ∀ rest, nxE (evB ⟨k, n, l, s, r, a, m, c, v, p⟩ ++ rest) 0 = ⟨k, n, l, s, r, a, m, c, v, p⟩ ∧ nxA (evB ⟨k, n, l, s, r, a, m, c, v, p⟩ ++ rest) 0 = le ∧ nxF (evB ⟨k, n, l, s, r, a, m, c, v, p⟩ ++ rest) 0 = 0 := fun rest => by
        have := nx_enc hr [] rest
        simp only [List.nil_append, List.length_nil, Nat.zero_add, hle] at this
        exact this
      have HPX := Lib.hid hpx
      clear hr hm2 hle hpx
      go_enter Try.func5, Try.ntmps5
      have hbox := heap_alloc_new w (.cells #[.int .i64 k, .int .i64 n, .int .i64 l, .int .i64 s, .int .i64 r, .int .i64 a, .int .i64 m, .int .i64 c, .int .i64 v, .int .i64 p] 27)
      have b1 : Below w.heap.size w (w.alloc (.cells #[.int .i64 k, .int .i64 n, .int .i64 l, .int .i64 s, .int .i64 r, .int .i64 a, .int .i64 m, .int .i64 c, .int .i64 v, .int .i64 p] 27)) := (Below.refl _ _).alloc (Nat.le_refl _) _
      go_wp2_with fail
      obtain ⟨e0, he0⟩ : ∃ e0, w.heap.size = e0 := ⟨_, rfl⟩
      rw [he0] at hbox
      try rw [he0]
      generalize w.alloc (.cells #[.int .i64 k, .int .i64 n, .int .i64 l, .int .i64 s, .int .i64 r, .int .i64 a, .int .i64 m, .int .i64 c, .int .i64 v, .int .i64 p] 27) = w1 at hbox b1 ⊢
      refine (head16 _).mono ?_
      rintro e w2 ⟨rfl, b2⟩
      have hbox2 := (Only.of_below (S := fun _ => False) b2).blk (fun q => q) hbox
      have b12 : Below w.heap.size w w2 := b1.trans (b2.mono b1.size)
      have ⟨t0, t1, t2, t3, t4, t5, t6, t7, t8, t9, _⟩ := ten_of hbox2
      clear hbox b1 b2
      go_wp2_with fail
      refine (lright_any k n l s r a m c v p w2 true ⟨fun _ => HR.out, fun _ => rfl⟩).mono ?_
      rintro e w3 ⟨rfl, b3⟩
      have hbox3 := (Only.of_below (S := fun _ => False) b3).blk (fun q => q) hbox2
      have b13 : Below w.heap.size w w3 := b12.trans (b3.mono b12.size)
      clear t0 t1 t2 t3 t4 t5 t6 t7 t8 t9 hbox2 b12 b3
      have ⟨t0, t1, t2, t3, t4, t5, t6, t7, t8, t9, _⟩ := ten_of hbox3
      go_wp2_with fail
      refine (put_yes none 0 0 k n l s r a m c v p [] w3 rfl (Lies.nil _ _ _) (by omega) HR.out).mono ?_
      rintro e w4 ⟨A, lx, cx, HM, rfl, hmc, hcm, hL, hbl, b4⟩
      rw [List.nil_append] at HM hL
      obtain rfl : le = lx := by rw [HM.out, HLE.out]
      have hbox4 := (Only.of_below (S := fun _ => False) b4).blk (fun q => q) hbox3
      have b14 : Below w.heap.size w w4 := b13.trans (b4.mono b13.size)
      clear t0 t1 t2 t3 t4 t5 t6 t7 t8 t9 hbox3 b13 b4 hbl
      have hqc : q ≤ cx := by omega
      go_wp2_with fail
      have HQ := Lib.hid hq
      clear hq
      refine (get_bad A q cx ((evB ⟨k, n, l, s, r, a, m, c, v, p⟩).take q) w4 (by rw [List.length_take, HLE.out]; omega) hqc (by rw [List.map_take]; exact hL.take q) (fun x hx => evB_byte _ x (List.mem_of_mem_take hx)) (by omega) (by rw [List.take_of_length_le (by rw [List.length_take]; omega), HCUT.out]; omega)).mono ?_
      rintro e w5 ⟨rfl, b5⟩
      have h5 : nxF (((evB ⟨k, n, l, s, r, a, m, c, v, p⟩).take q).take 70) 0 = 5 := by rw [List.take_of_length_le (by rw [List.length_take]; omega), HCUT.out]
      rw [h5]
      clear h5
      have hbox5 := (Only.of_below (S := fun _ => False) b5).blk (fun q => q) hbox4
      have b15 : Below w.heap.size w w5 := b14.trans (b5.mono b14.size)
      have hL5 := (hL.below b5 (Nat.le_refl _)).more b5.size
      clear hbox4 b14 b5 hL
      dsimp only [ev, zero]
      go_upto_region 8 with (fail)
      have hzx := heap_alloc_new w5 (.cells #[.int .i64 0, .int .i64 0, .int .i64 0, .int .i64 0, .int .i64 0, .int .i64 0, .int .i64 0, .int .i64 0, .int .i64 0, .int .i64 0] 27)
      have b6 : Below w5.heap.size w5 (w5.alloc (.cells #[.int .i64 0, .int .i64 0, .int .i64 0, .int .i64 0, .int .i64 0, .int .i64 0, .int .i64 0, .int .i64 0, .int .i64 0, .int .i64 0] 27)) := (Below.refl _ _).alloc (Nat.le_refl _) _
      have hbox6 := (Only.of_below (S := fun _ => False) b6).blk (fun q => q) hbox5
      have hL6 := (hL5.below b6 (Nat.le_refl _)).more b6.size
      have b16 : Below w.heap.size w (w5.alloc (.cells #[.int .i64 0, .int .i64 0, .int .i64 0, .int .i64 0, .int .i64 0, .int .i64 0, .int .i64 0, .int .i64 0, .int .i64 0, .int .i64 0] 27)) := b15.trans (b6.mono b15.size)
      obtain ⟨z0, hz0'⟩ : ∃ z0, w5.heap.size = z0 := ⟨_, rfl⟩
      rw [hz0'] at hzx
      try rw [hz0']
      clear b6 hbox5 hL5 b15
      generalize w5.alloc (.cells #[.int .i64 0, .int .i64 0, .int .i64 0, .int .i64 0, .int .i64 0, .int .i64 0, .int .i64 0, .int .i64 0, .int .i64 0, .int .i64 0] 27) = w6 at hzx hbox6 hL6 b16 ⊢
      have hA6 := (hA.below b16 (Nat.le_refl _)).more b16.size
      have hmx := own_max (own_empty (w := w6) (e := 5) (Nat.le_refl w6.heap.size))
      go_wp2_with (first
        | (at_builtin; refine wpList_appN rfl _ _ 24 rfl w6.heap.size 5 i0 (.int .u8 0) 1 Try.underlying24 hi hz0 hz1 hz2 rfl w6.heap.size 0 0 [] rfl (own_empty (Nat.le_refl _)) A le cx w6.heap.size ((evB ⟨k, n, l, s, r, a, m, c, v, p⟩).map bv) rfl (by simp [HLE.out]) (hL6.keep fun b hb => Below.heap_alloc _ _ _ hb) (ones_u8 _) (by omega) (by omega) (by simp) ?_; intro g7 cap7 w7 own7 hg7 hat7 hlt7; simp only [Nat.zero_add, List.nil_append] at own7 ⊢)
        | (at_builtin; refine wpList_appN rfl _ _ 24 rfl w6.heap.size 5 i0 (.int .u8 0) 1 Try.underlying24 hi hz0 hz1 hz2 rfl g7 le cap7 ((evB ⟨k, n, l, s, r, a, m, c, v, p⟩).map bv) rfl own7 a2 k2 c2 w6.heap.size (ms.map bv) rfl (by simp [HK2.out]) (hA6.below (((Below.refl w6.heap.size w6).alloc (Nat.le_refl _) (.cells #[] 5)).grown hg7 (by simp) (fun j hj => by injection hj with hj; omega)) (Nat.le_refl _)) (ones_u8 _) (by omega) (by omega) (by have := hg7.size; simp at this; omega) ?_; intro g8 cap8 w8 own8 hg8 hat8 hlt8))
      have b7 : Below w6.heap.size w6 w7 := ((Below.refl w6.heap.size w6).alloc (Nat.le_refl _) (.cells #[] 5)).grown hg7 (by simp) (fun j hj => by injection hj with hj; omega)
      have hgb7 := (own_cap own7).2.2
      have b8 : Below w6.heap.size w6 w8 := b7.grown hg8 b7.size (fun j hj => by injection hj with hj; omega)
      have b18 : Below w.heap.size w w8 := b16.trans (b8.mono b16.size)
      have hzx8 := (Only.of_below (S := fun _ => False) b8).blk (fun q => q) hzx
      have hbox8 := (Only.of_below (S := fun _ => False) b8).blk (fun q => q) hbox6
      have hcap8 := (own_cap own8).1
      have hL8 := lies_own own8
      rw [← List.map_append] at hL8
      have et : (evB ⟨k, n, l, s, r, a, m, c, v, p⟩ ++ ms).take 70 = evB ⟨k, n, l, s, r, a, m, c, v, p⟩ ++ ms.take (70 - le) := by
        rw [List.take_append, List.take_of_length_le (by rw [HLE.out]; omega), HLE.out]
      obtain ⟨px1, px2, px3⟩ := HPX.out (ms.take (70 - le))
      rw [← et] at px1 px2 px3
      have PX1 := Lib.hid px1
      have PX2 := Lib.hid px2
      have PX3 := Lib.hid px3
      have hby : ∀ x ∈ evB ⟨k, n, l, s, r, a, m, c, v, p⟩ ++ ms, x < 256 := fun x hx => (List.mem_append.1 hx).elim (evB_byte _ x) (HMS.out x)
      clear hzx hbox6 hL6 hA6 b16 b7 b8 own7 own8 hg7 hg8 hat7 hat8 hlt7 hlt8 hgb7 et px1 px2 px3 hmx
      refine (get_ok (some ⟨g8, 0, none⟩) (le + k2) cap8 (evB ⟨k, n, l, s, r, a, m, c, v, p⟩ ++ ms) w8 (by rw [List.length_append, HLE.out, HK2.out]) hcap8 hL8 hby (by omega) PX3.out).mono ?_
      rintro e w9 ⟨rfl, b9⟩
      rw [PX1.out, PX2.out]
      have hzx9 := (Only.of_below (S := fun _ => False) b9).blk (fun q => q) hzx8
      have hbox9 := (Only.of_below (S := fun _ => False) b9).blk (fun q => q) hbox8
      have b19 : Below w.heap.size w w9 := b18.trans (b9.mono b18.size)
      clear hzx8 hbox8 hL8 b18 b9 hby
      dsimp only [ev]
      go_upto_region 9 with (fail)
      have hy := heap_alloc_new w9 (.cells #[.int .i64 k, .int .i64 n, .int .i64 l, .int .i64 s, .int .i64 r, .int .i64 a, .int .i64 m, .int .i64 c, .int .i64 v, .int .i64 p] 27)
      have b10 : Below w9.heap.size w9 (w9.alloc (.cells #[.int .i64 k, .int .i64 n, .int .i64 l, .int .i64 s, .int .i64 r, .int .i64 a, .int .i64 m, .int .i64 c, .int .i64 v, .int .i64 p] 27)) := (Below.refl _ _).alloc (Nat.le_refl _) _
      have hzx10 := (Only.of_below (S := fun _ => False) b10).blk (fun q => q) hzx9
      have hbox10 := (Only.of_below (S := fun _ => False) b10).blk (fun q => q) hbox9
      have b20 : Below w.heap.size w (w9.alloc (.cells #[.int .i64 k, .int .i64 n, .int .i64 l, .int .i64 s, .int .i64 r, .int .i64 a, .int .i64 m, .int .i64 c, .int .i64 v, .int .i64 p] 27)) := b19.trans (b10.mono b19.size)
      obtain ⟨y0, hy0⟩ : ∃ y0, w9.heap.size = y0 := ⟨_, rfl⟩
      rw [hy0] at hy
      try rw [hy0]
      clear b10 hzx9 hbox9 b19
      generalize w9.alloc (.cells #[.int .i64 k, .int .i64 n, .int .i64 l, .int .i64 s, .int .i64 r, .int .i64 a, .int .i64 m, .int .i64 c, .int .i64 v, .int .i64 p] 27) = w10 at hy hzx10 hbox10 b20 ⊢
      have ⟨t0, t1, t2, t3, t4, t5, t6, t7, t8, t9, _⟩ := ten_of hbox10
      have ⟨u0, u1, u2, u3, u4, u5, u6, u7, u8, u9, _⟩ := ten_of hzx10
      have ⟨v0, v1, v2, v3, v4, v5, v6, v7, v8, v9, _⟩ := ten_of hy
      clear hbox10 hzx10 hy
      go_wp2_with fail
      go_ret
      first | exact ⟨rfl, b20⟩ | exact ⟨rfl, by rw [← he0]; exact b20⟩
  · have HR := Lib.hid hr
    clear hr
    go_enter Try.func5, Try.ntmps5
    have hbox := heap_alloc_new w (.cells #[.int .i64 k, .int .i64 n, .int .i64 l, .int .i64 s, .int .i64 r, .int .i64 a, .int .i64 m, .int .i64 c, .int .i64 v, .int .i64 p] 27)
    have b1 : Below w.heap.size w (w.alloc (.cells #[.int .i64 k, .int .i64 n, .int .i64 l, .int .i64 s, .int .i64 r, .int .i64 a, .int .i64 m, .int .i64 c, .int .i64 v, .int .i64 p] 27)) := (Below.refl _ _).alloc (Nat.le_refl _) _
    go_wp2_with fail
    obtain ⟨e0, he0⟩ : ∃ e0, w.heap.size = e0 := ⟨_, rfl⟩
    rw [he0] at hbox
    try rw [he0]
    generalize w.alloc (.cells #[.int .i64 k, .int .i64 n, .int .i64 l, .int .i64 s, .int .i64 r, .int .i64 a, .int .i64 m, .int .i64 c, .int .i64 v, .int .i64 p] 27) = w1 at hbox b1 ⊢
    refine (head16 _).mono ?_
    rintro e w2 ⟨rfl, b2⟩
    have hbox2 := (Only.of_below (S := fun _ => False) b2).blk (fun q => q) hbox
    have b12 : Below w.heap.size w w2 := b1.trans (b2.mono b1.size)
    have ⟨t0, t1, t2, t3, t4, t5, t6, t7, t8, t9, _⟩ := ten_of hbox2
    clear hbox b1 b2 hbox2
    go_wp2_with fail
    refine (lright_any k n l s r a m c v p w2 false ⟨fun q => (nomatch q), fun q => absurd q HR.out⟩).mono ?_
    rintro e w3 ⟨rfl, b3⟩
    clear t0 t1 t2 t3 t4 t5 t6 t7 t8 t9
    have b13 : Below w.heap.size w w3 := b12.trans (b3.mono b12.size)
    go_wp2_with fail
    go_ret
    first | exact ⟨rfl, b13⟩ | exact ⟨rfl, by rw [← he0]; exact b13⟩

end Go.Proofs.Ytkfhgdnlieaedaa.W
