/- The laws WarmAges and WarmDrops: their walks. -/
import Derived.Test.YtpagleilaaljoaaWarmC
import Derived.Test.YtpagleilaaljoaaActs
namespace Go.Proofs.Ytpagleilaaljoaa.W.HR
open Go.RowKit
open Go.Proofs.Ytpagleilaaljoaa.R (order_any cmpI cmp_lt cmp_gt cmp_eq U64 Rat)

theorem below_two {w w' : World} {x y : Array Value} {t : TypeId} (e : (w.alloc (.cells x t)).alloc (.cells y t) = w') : Below w.heap.size w w' := floor_below (Below.refl _ _) e

set_option maxRecDepth 100000 in
set_option maxHeartbeats 3200000 in
theorem ages_walk (x0 x1 x2 x3 : Int) (w : World) :
    Calls Try.prog 9 #[.int .i64 x0, .int .i64 x1, .int .i64 x2, .int .i64 x3] w fun e w' => e = .returned (.bool true) ∧ Below w.heap.size w w' := by
  obtain ⟨o, ho, ho1⟩ := and_nat x0 1023 10 1024 (by decide) (by decide) (by decide)
  obtain ⟨k, hk, hk1⟩ := and_nat x1 1023 10 1024 (by decide) (by decide) (by decide)
  obtain ⟨m0, hm0, hm1⟩ := and_nat x2 4095 12 4096 (by decide) (by decide) (by decide)
  obtain ⟨g0, hg0, hg1⟩ := and_nat x3 15 4 16 (by decide) (by decide) (by decide)
  obtain ⟨m, hm⟩ : ∃ m, m = 1 + m0 := ⟨_, rfl⟩
  obtain ⟨t, ht⟩ : ∃ t, t = 1 + g0 := ⟨_, rfl⟩
  have hmI : (1 : Int) + (m0 : Int) = (m : Int) := by omega
  have htI : (1 : Int) + (g0 : Int) = (t : Int) := by omega
  have hoI : (o : Int) < 1024 := by omega
  have hkI : (k : Int) < 1024 := by omega
  have hmI2 : (m : Int) < 4097 := by omega
  have htI2 : (t : Int) < 17 := by omega
  have hm0' : 0 < m := by omega
  have ht0 : 0 < t := by omega
  have hm64 : m < 4097 := by omega
  have ht17 : t < 17 := by omega
  clear hm ht hm1 hg1
  have hokle : o * k ≤ 1023 * 1023 := Nat.mul_le_mul (by omega) (by omega)
  obtain ⟨y, hy⟩ : ∃ y, y = o * k := ⟨_, rfl⟩
  have hmul := mul_u64 hy (by omega)
  have hy1 : y ≤ 1046529 := by omega
  have HY := Lib.hid hy
  have HOK := Lib.hid hokle
  clear hy hokle
  go_enter Try.func9, Try.ntmps9
  go_wp2_with fail
  refine (head9 _).mono ?_
  rintro e w1 ⟨rfl, b1⟩
  go_wp2_with fail
  refine (z_new (B := w.heap.size) w1 b1.size).mono ?_
  rintro e w2 ⟨rfl, h2, b2⟩
  obtain ⟨c, hc⟩ : ∃ c, w1.heap.size = c := ⟨_, rfl⟩
  have bb2 := b1.trans (b2.mono b1.size)
  rw [hc] at h2 ⊢
  clear hc b1 b2
  go_wp2_with fail
  refine (z_set w2 c 0 0 _ 1 o k m y h2 (by decide) (by decide) (by have := HOK.out; omega) hm0' (by omega) (by rw [HY.out]; omega) (by omega) (by decide) 1 rfl).mono ?_
  rintro e w3 ⟨rfl, h3, s3⟩
  have bb3 := bb2.trans (s3.bel h2.sz)
  go_wp2_with fail
  refine (z_worth w3 c 0 1 _ h3 1 y m 1 (updZ_same _ _ _) (by decide)).mono ?_
  rintro e w4 ⟨rfl, h4, s4⟩
  have bb4 := bb3.trans (s4.bel h3.sz)
  go_upto_region 9 with (fail)
  have h5 := h4.alloc (.cells #[.int .u64 (y : Int), .int .u64 (m : Int)] 53)
  have bb5 : Below w.heap.size w (w4.alloc (.cells #[.int .u64 (y : Int), .int .u64 (m : Int)] 53)) := bb4.trans (((Below.refl w4.heap.size w4).alloc (Nat.le_refl _) _).mono bb4.size)
  have HB := Lib.hid (heap_alloc_new w4 (.cells #[.int .u64 (y : Int), .int .u64 (m : Int)] 53))
  obtain ⟨q, hq⟩ : ∃ q, w4.heap.size = q := ⟨_, rfl⟩
  rw [hq] at h5 HB
  rw [hq]
  clear hq h2 h3 h4 s3 s4 bb2 bb3 bb4
  generalize w4.alloc (.cells #[.int .u64 (y : Int), .int .u64 (m : Int)] 53) = w5 at h5 bb5 HB ⊢
  go_wp2_with fail
  go_loopg [16] t (fun gk vi wr => ∃ (i n : Nat) (A : Int → Option V), vi = .int .i64 (i : Int) ∧ i + gk = t ∧ Cz w.heap.size [q] wr c i n A ∧ n ≤ 1 ∧ Hid (∀ z v, A z = some v → z = 1) ∧ Hid (wr.heap[q]? = some (.cells #[.int .u64 (y : Int), .int .u64 (m : Int)] 53)) ∧ Below w.heap.size w wr)
  case atStart =>
    refine ⟨0, 1, _, rfl, by omega, h5, by omega, Lib.hid ?_, HB, bb5⟩
    intro z v hq; unfold updZ at hq; split at hq
    · assumption
    · cases hq
  case round =>
    clear h5 bb5 HB
    obtain ⟨i, n, A, rfl, hik, hz, hn1, HA, HB, bz⟩ := hrel
    have HIK := Lib.hid hik
    by_cases hi : i < t
    · have hii : (i : Int) < (t : Int) := by omega
      have hA100 : A 100 = none := by
        cases e : A 100 with
        | none => rfl
        | some v => have := HA.out _ _ e; omega
      have HA100 := Lib.hid hA100
      clear hik hA100
      go_wp2_with fail
      refine (z_set wr c i n A 100 1 1 1 (i + 1) hz (by decide) (by omega) (by decide) (by decide) (by decide) (by omega) (by omega) (by omega) (n + 1) (by rw [HA100.out]; rfl)).mono ?_
      rintro e w6 ⟨rfl, h6, s6⟩
      have bb6 := bz.trans (s6.bel hz.sz)
      have HB6 := Lib.hid (s6.box (List.mem_singleton.2 rfl) HB.out)
      have hdrop : Calls Try.prog 23 #[.pointer (some ⟨c, 0, none⟩), .int .i64 1] w6 fun e w' => ∃ (b : Bool) (n2 : Nat) (A2 : Int → Option V), e = .returned (.bool b) ∧ n2 ≤ 2 ∧ Cz w.heap.size [q] w' c i n2 A2 ∧ (∀ z v, A2 z = some v → z = 100 ∧ v = (i + 1, 1, 100)) ∧ A2 100 = some (i + 1, 1, 100) ∧ Stp w.heap.size [q] w6 w' := by
        cases hA1 : updZ A 100 (some (i + 1, 1, 100)) 1 with
        | none =>
          refine (z_drop0 w6 c i (n + 1) _ 1 h6 (by decide) hA1).mono ?_
          rintro e w' ⟨rfl, g1, g2⟩
          refine ⟨false, n + 1, _, rfl, by omega, g1, ?_, updZ_same _ _ _, g2⟩
          intro z v hq
          unfold updZ at hq; split at hq
          · rename_i e; cases hq; exact ⟨e, rfl⟩
          · have := HA.out z v hq; subst this; rw [updZ_ne _ _ (by decide), hq] at hA1; cases hA1
        | some v1 =>
          refine (z_drop w6 c i (n + 1) _ 1 v1 h6 hA1 (by omega) n rfl).mono ?_
          rintro e w' ⟨rfl, g1, g2⟩
          refine ⟨true, n, _, rfl, by omega, g1, ?_, by rw [updZ_ne _ _ (by decide)]; exact updZ_same _ _ _, g2⟩
          intro z v hq
          unfold updZ at hq; split at hq
          · cases hq
          · split at hq
            · rename_i e; cases hq; exact ⟨e, rfl⟩
            · rename_i e _; exact absurd (HA.out z v hq) e
      go_wp2_with fail
      refine hdrop.mono ?_
      rintro e w7 ⟨b, n2, A2, rfl, hn2, h7, hA2, hA2', s7⟩
      clear hdrop
      have bb7 := bb6.trans (s7.bel h6.sz)
      have HB7 := Lib.hid (s7.box (List.mem_singleton.2 rfl) HB6.out)
      have hpos := (h7.cq.ids hA2').2.2.2
      have HA2 := Lib.hid hA2
      clear hA2 hA2'
      go_wp2_with fail
      refine (z_evict w7 c i n2 A2 h7 (n2 - 1) (by omega) (by omega)).mono ?_
      rintro e w8 ⟨id, v, rfl, hid, hmin, h8, s8⟩
      obtain ⟨rfl, rfl⟩ := HA2.out id v hid
      have h9 : Cz w.heap.size [q] w8 c (i + 1) (n2 - 1) (updZ A2 100 none) := by
        have e1 : max i ((i + 1) / 1) = i + 1 := by rw [Nat.div_one]; omega
        have h8' : Cz w.heap.size [q] w8 c (max i ((i + 1) / 1)) (n2 - 1) (updZ A2 100 none) := h8
        rw [e1] at h8'; exact h8'
      have bb8 := bb7.trans (s8.bel h7.sz)
      have HB8 := Lib.hid (s8.box (List.mem_singleton.2 rfl) HB7.out)
      clear h8 hmin hid
      go_wp2_with fail
      go_roundg (gk - 1)
      case measure => have := HIK.out; omega
      case rel =>
        refine ⟨i + 1, n2 - 1, _, by go_num, by have := HIK.out; omega, h9, by omega, Lib.hid ?_, HB8, bb8⟩
        intro z v hq
        unfold updZ at hq; split at hq
        · cases hq
        · rename_i e; exact absurd (HA2.out z v hq).1 e
    · obtain rfl : i = t := by omega
      clear hik HIK hi
      obtain ⟨u, hu⟩ : ∃ u, u = i * m + o * k := ⟨_, rfl⟩
      have him : i * m ≤ 16 * 4096 := Nat.mul_le_mul (by omega) (by omega)
      have him0 : 0 < i * m := Nat.mul_pos ht0 hm0'
      have hu64 : u < 18446744073709551616 := by have := HOK.out; omega
      have HU := Lib.hid hu
      obtain ⟨nn, hnn⟩ : ∃ nn, nn = if (A 1).isSome then n else n + 1 := ⟨_, rfl⟩
      have hnn2 : nn ≤ 2 := by rw [hnn]; split <;> omega
      have HNN := Lib.hid hnn
      clear hnn hu
      go_wp2_with fail
      refine (z_set wr c i n A 1 o k m u hz (by decide) (by omega) (by have := HOK.out; omega) hm0' (by omega) HU.out hu64 (by omega) nn HNN.out).mono ?_
      rintro e w6 ⟨rfl, h6, s6⟩
      have bb6 := bz.trans (s6.bel hz.sz)
      have HB6 := Lib.hid (s6.box (List.mem_singleton.2 rfl) HB.out)
      go_wp2_with fail
      refine (z_worth w6 c i nn _ h6 1 u m 1 (updZ_same _ _ _) (by omega)).mono ?_
      rintro e w7 ⟨rfl, h7, s7⟩
      have bb7 := bb6.trans (s7.bel h6.sz)
      have HB7 := Lib.hid (s7.box (List.mem_singleton.2 rfl) HB6.out)
      go_upto_region 20 with (fail)
      have h8 := h7.alloc (.cells #[.int .u64 (u : Int), .int .u64 (m : Int)] 53)
      have hb8 : Below w7.heap.size w7 (w7.alloc (.cells #[.int .u64 (u : Int), .int .u64 (m : Int)] 53)) := (Below.refl w7.heap.size w7).alloc (Nat.le_refl _) _
      have bb8 := bb7.trans (hb8.mono bb7.size)
      have HB8 := Lib.hid ((Only.of_below (S := fun _ => False) hb8).blk (fun q => q) HB7.out)
      have HC := Lib.hid (heap_alloc_new w7 (.cells #[.int .u64 (u : Int), .int .u64 (m : Int)] 53))
      obtain ⟨s, hs⟩ : ∃ s, w7.heap.size = s := ⟨_, rfl⟩
      rw [hs] at HC h8
      rw [hs]
      clear hs hb8 HB7 bb7 h7 HB6 h6
      generalize w7.alloc (.cells #[.int .u64 (u : Int), .int .u64 (m : Int)] 53) = w8 at h8 bb8 HB8 HC ⊢
      have a0 := cell_of_row _ _ 0 _ _ _ HB8.out
      have a1 := cell_of_row _ _ 1 _ _ _ HB8.out
      have c0 := cell_of_row _ _ 0 _ _ _ HC.out
      have c1 := cell_of_row _ _ 1 _ _ _ HC.out
      have hlt : (y : Int) * (m : Int) < (u : Int) * (m : Int) := by
        have h1 : y < u := by rw [HU.out, HY.out]; omega
        exact Int.mul_lt_mul_of_pos_right (Int.ofNat_lt.2 h1) (by omega)
      have hord := fun w => order_any (y : Int) (m : Int) (u : Int) (m : Int) (u64n (by omega)) (u64n (by omega)) (u64n hu64) (u64n (by omega)) (by omega) (by omega) w
      rw [cmp_lt hlt] at hord
      obtain ⟨im, him2⟩ : ∃ im, im = i * m := ⟨_, rfl⟩
      have hmul2 := mul_u64 him2 (by omega)
      have hadd : IntKind.u64.wrap ((im : Int) + (y : Int)) = (u : Int) := by rw [IntKind.wrap_u64, him2, HY.out, HU.out]; have := HOK.out; omega
      clear him2 hlt
      go_wp2_with fail
      refine (w_clock w8 c i nn _ h8.cq).mono ?_
      rintro e w9 ⟨rfl, rfl⟩
      go_wp2_with fail
      refine (hord _).mono ?_
      rintro e w9 ⟨rfl, y1, y2, hw9⟩
      have b9 := below_two hw9
      clear hw9 hord a0 a1
      have c0' := (Only.of_below (S := fun _ => False) b9).cell (x := ⟨s, 0, none⟩) (fun q => q) c0
      have c1' := (Only.of_below (S := fun _ => False) b9).cell (x := ⟨s, 1, none⟩) (fun q => q) c1
      clear c0 c1
      go_wp2_with fail
      go_ret
      exact ⟨rfl, bb8.trans (b9.mono bb8.size)⟩
end Go.Proofs.Ytpagleilaaljoaa.W.HR
