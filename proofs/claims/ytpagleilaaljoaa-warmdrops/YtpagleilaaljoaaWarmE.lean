/- The law WarmDrops: its walk. -/
import Derived.Test.YtpagleilaaljoaaWarmC
import Derived.Test.YtpagleilaaljoaaActs
namespace Go.Proofs.Ytpagleilaaljoaa.W.HR
open Go.RowKit

set_option maxRecDepth 100000 in
set_option maxHeartbeats 3200000 in
theorem drops_walk (a0 : Option Addr) (k0 cap : Nat) (Z : Nat → Int) (_hc : k0 ≤ cap) (w : World) (L : Lies w w.heap.size a0 (zs Z (k0 * 5))) (wf : ∀ j, j < k0 * 5 → (Lit.int .i64 (Z j)).wf = true) :
    Calls Try.prog 11 #[.slice a0 k0 cap] w fun e w' => e = .returned (.bool true) ∧ Below w.heap.size w w' := by
  by_cases hk : 60 < k0
  · have hki : decide ((60 : Int) < (k0 : Int)) = true := by simp; omega
    go_enter Try.func11, Try.ntmps11
    go_wp2_with fail
    refine (head9 _).mono ?_
    rintro e w1 ⟨rfl, b1⟩
    go_wp2_with fail
    go_ret
    exact ⟨rfl, b1⟩
  · have hki : decide ((60 : Int) < (k0 : Int)) = false := by simp; omega
    go_enter Try.func11, Try.ntmps11
    go_wp2_with fail
    refine (head9 _).mono ?_
    rintro e w1 ⟨rfl, b1⟩
    go_wp2_with fail
    refine (z_new (B := w.heap.size) w1 b1.size).mono ?_
    rintro e w2 ⟨rfl, h2, b2⟩
    obtain ⟨c, hc⟩ : ∃ c, w1.heap.size = c := ⟨_, rfl⟩
    have bb2 := b1.trans (b2.mono b1.size)
    rw [hc] at h2 ⊢
    clear hc b1 b2
    go_wp2_with fail
    clear hki
    go_loopg [24] k0 (fun gk vi wr => ∃ (i n : Nat) (A : Int → Option V), vi = .int .i64 (i : Int) ∧ i + gk = k0 ∧ Cz w.heap.size [] wr c 0 n A ∧ n ≤ i ∧ Below w.heap.size w wr)
    case atStart => exact ⟨0, 0, _, rfl, by omega, h2, by omega, bb2⟩
    case round =>
      clear h2 bb2
      obtain ⟨i, n, A, rfl, hik, hz, hni, bz⟩ := hrel
      have HIK := Lib.hid hik
      by_cases hi : i < k0
      · obtain ⟨ad, ha, hab, hcell⟩ := (L.below bz (Nat.le_refl _)).num (j := i * 5) (by omega)
        have hii : (i : Int) < (k0 : Int) := by omega
        have x0 := hcell (i * 5) (by omega)
        have x1 := cell_in (c := 0) (hcell (i * 5 + 1) (by omega))
        have x2 := cell_in (c := 1) (hcell (i * 5 + 2) (by omega))
        have x3 := cell_in (c := 2) (hcell (i * 5 + 3) (by omega))
        have x4 := cell_in (c := 3) (hcell (i * 5 + 4) (by omega))
        rw [Nat.zero_add] at x1
        rw [show (1 : Nat) + 1 = 2 from rfl] at x2
        rw [show (2 : Nat) + 1 = 3 from rfl] at x3
        rw [show (3 : Nat) + 1 = 4 from rfl] at x4
        have wd := wf (i * 5 + 1) (by omega)
        obtain ⟨z0, hz0⟩ : ∃ z, Z (i * 5) = z := ⟨_, rfl⟩
        obtain ⟨z1, hz1⟩ : ∃ z, Z (i * 5 + 1) = z := ⟨_, rfl⟩
        obtain ⟨z2, hz2⟩ : ∃ z, Z (i * 5 + 2) = z := ⟨_, rfl⟩
        obtain ⟨z3, hz3⟩ : ∃ z, Z (i * 5 + 3) = z := ⟨_, rfl⟩
        obtain ⟨z4, hz4⟩ : ∃ z, Z (i * 5 + 4) = z := ⟨_, rfl⟩
        rw [hz0] at x0
        rw [hz1] at x1 wd
        rw [hz2] at x2
        rw [hz3] at x3
        rw [hz4] at x4
        subst ha
        clear hcell hik hz0 hz1 hz2 hz3 hz4
        obtain ⟨o, ho, ho1⟩ := and_nat z2 1023 10 1024 (by decide) (by decide) (by decide)
        obtain ⟨k, hk, hk1⟩ := and_nat z3 1023 10 1024 (by decide) (by decide) (by decide)
        obtain ⟨m0, hm0, hm1⟩ := and_nat z4 4095 12 4096 (by decide) (by decide) (by decide)
        obtain ⟨m, hm⟩ : ∃ m, m = 1 + m0 := ⟨_, rfl⟩
        have hmI : (1 : Int) + (m0 : Int) = (m : Int) := by omega
        have hoI : (o : Int) < 1024 := by omega
        have hkI : (k : Int) < 1024 := by omega
        have hmI2 : (m : Int) < 4097 := by omega
        have hm0' : 0 < m := by omega
        have hm64 : m < 4097 := by omega
        clear hm hm1
        have hokle : o * k ≤ 1023 * 1023 := Nat.mul_le_mul (by omega) (by omega)
        obtain ⟨y, hy⟩ : ∃ y, y = o * k := ⟨_, rfl⟩
        have hmul := mul_u64 hy (by omega)
        have hy1 : y ≤ 1046529 := by omega
        have HY := Lib.hid hy
        have HOK := Lib.hid hokle
        clear hy hokle
        obtain ⟨n1, hn1⟩ : ∃ n1, n1 = if (A z1).isSome then n else n + 1 := ⟨_, rfl⟩
        have hn1' : n1 ≤ n + 1 := by rw [hn1]; split <;> omega
        have HN1 := Lib.hid hn1
        clear hn1
        go_upto_region 9 with (fail)
        have h3 := hz.alloc (.cells #[.int .i64 z0, .int .i64 z1, .int .i64 z2, .int .i64 z3, .int .i64 z4] 51)
        have hb3 : Below wr.heap.size wr (wr.alloc (.cells #[.int .i64 z0, .int .i64 z1, .int .i64 z2, .int .i64 z3, .int .i64 z4] 51)) := (Below.refl _ _).alloc (Nat.le_refl _) _
        have bb3 := bz.trans (hb3.mono bz.size)
        have HB3 := Lib.hid (heap_alloc_new wr (.cells #[.int .i64 z0, .int .i64 z1, .int .i64 z2, .int .i64 z3, .int .i64 z4] 51))
        obtain ⟨qa, hqa⟩ : ∃ q, wr.heap.size = q := ⟨_, rfl⟩
        rw [hqa] at h3 HB3
        rw [hqa]
        clear hqa hb3 hz bz x0 x1 x2 x3 x4
        generalize wr.alloc (.cells #[.int .i64 z0, .int .i64 z1, .int .i64 z2, .int .i64 z3, .int .i64 z4] 51) = w3 at h3 bb3 HB3 ⊢
        have y1 := cell_of_row _ _ 1 _ _ _ HB3.out
        have y2 := cell_of_row _ _ 2 _ _ _ HB3.out
        have y3 := cell_of_row _ _ 3 _ _ _ HB3.out
        have y4 := cell_of_row _ _ 4 _ _ _ HB3.out
        go_wp2_with fail
        refine (z_set w3 c 0 n A z1 o k m y h3 wd (by decide) (by have := HOK.out; omega) hm0' (by omega) (by rw [HY.out]; omega) (by omega) (by omega) n1 HN1.out).mono ?_
        rintro e w4 ⟨rfl, h4, s4⟩
        have bb4 := bb3.trans (s4.bel h3.sz)
        have HB4 := Lib.hid (s4.box (List.mem_singleton.2 rfl) HB3.out)
        clear y1 y2 y3 y4 ho hk hm0 h3
        have y1 := cell_of_row _ _ 1 _ _ _ HB4.out
        go_wp2_with fail
        refine (z_worth w4 c 0 n1 _ h4 z1 y m z1 (updZ_same _ _ _) (by omega)).mono ?_
        rintro e w5 ⟨rfl, h5, s5⟩
        have bb5 := bb4.trans (s5.bel h4.sz)
        have HB5 := Lib.hid (s5.box (List.mem_singleton.2 rfl) HB4.out)
        clear y1 h4
        go_upto_region 14 with (fail)
        have h6 := h5.alloc (.cells #[.int .u64 (y : Int), .int .u64 (m : Int)] 53)
        have hb6 : Below w5.heap.size w5 (w5.alloc (.cells #[.int .u64 (y : Int), .int .u64 (m : Int)] 53)) := (Below.refl _ _).alloc (Nat.le_refl _) _
        have bb6 := bb5.trans (hb6.mono bb5.size)
        have HB6 := Lib.hid ((Only.of_below (S := fun _ => False) hb6).blk (fun q => q) HB5.out)
        have HC6 := Lib.hid (heap_alloc_new w5 (.cells #[.int .u64 (y : Int), .int .u64 (m : Int)] 53))
        obtain ⟨qb, hqb⟩ : ∃ q, w5.heap.size = q := ⟨_, rfl⟩
        rw [hqb] at h6 HC6
        rw [hqb]
        clear hqb hb6 h5 bb5 HB5
        generalize w5.alloc (.cells #[.int .u64 (y : Int), .int .u64 (m : Int)] 53) = w6 at h6 bb6 HB6 HC6 ⊢
        have y1 := cell_of_row _ _ 1 _ _ _ HB6.out
        have hpos := (h6.cq.ids (updZ_same A z1 (some (y, m, z1)))).2.2.2
        obtain ⟨n2, hn2⟩ : ∃ n2, n1 = n2 + 1 := ⟨n1 - 1, by omega⟩
        have HN2 := Lib.hid hn2
        clear hn2
        have ia : qa ∈ [qb, qa] := by simp
        have ib : qb ∈ [qb, qa] := by simp
        go_wp2_with fail
        refine (z_drop w6 c 0 n1 _ z1 _ h6 (updZ_same _ _ _) (by omega) n2 HN2.out).mono ?_
        rintro e w7 ⟨rfl, h7, s7⟩
        have bb7 := bb6.trans (s7.bel h6.sz)
        have HB7 := Lib.hid (s7.box ia HB6.out)
        have HC7 := Lib.hid (s7.box ib HC6.out)
        clear y1 h6 bb6 HB6 HC6
        have y1 := cell_of_row _ _ 1 _ _ _ HB7.out
        go_wp2_with fail
        refine (z_worth0 w7 c 0 n2 _ h7 z1 wd (updZ_same _ _ _) (by have := HN2.out; omega)).mono ?_
        rintro e w8 ⟨rfl, h8, s8⟩
        have bb8 := bb7.trans (s8.bel h7.sz)
        have HB8 := Lib.hid (s8.box ia HB7.out)
        have HC8 := Lib.hid (s8.box ib HC7.out)
        clear y1 h7 bb7 HB7 HC7
        go_upto_region 16 with (fail)
        have hb9 : Below w8.heap.size w8 (w8.alloc (.cells #[.int .u64 0, .int .u64 0] 53)) := (Below.refl _ _).alloc (Nat.le_refl _) _
        have h9 := h8.below hb9
        have bb9 := bb8.trans (hb9.mono bb8.size)
        have HB9 := Lib.hid ((Only.of_below (S := fun _ => False) hb9).blk (fun q => q) HB8.out)
        have HC9 := Lib.hid ((Only.of_below (S := fun _ => False) hb9).blk (fun q => q) HC8.out)
        clear hb9 h8 bb8 HB8 HC8
        obtain ⟨qz, hqz⟩ : ∃ q, w8.heap.size = q := ⟨_, rfl⟩
        rw [hqz]
        clear hqz
        generalize w8.alloc (.cells #[.int .u64 0, .int .u64 0] 53) = w9 at h9 bb9 HB9 HC9 ⊢
        have y1 := cell_of_row _ _ 1 _ _ _ HB9.out
        go_wp2_with fail
        refine (z_set w9 c 0 n2 _ z1 o k m y h9 wd (by decide) (by have := HOK.out; omega) hm0' (by omega) (by rw [HY.out]; omega) (by omega) (by have := HN2.out; omega) (n2 + 1) (by rw [updZ_same]; rfl)).mono ?_
        rintro e w10 ⟨rfl, h10, s10⟩
        have bb10 := bb9.trans (s10.bel h9.sz)
        have HB10 := Lib.hid (s10.box ia HB9.out)
        have HC10 := Lib.hid (s10.box ib HC9.out)
        clear y1 h9 bb9 HB9 HC9
        have y1 := cell_of_row _ _ 1 _ _ _ HB10.out
        go_wp2_with fail
        refine (z_worth w10 c 0 (n2 + 1) _ h10 z1 y m z1 (updZ_same _ _ _) (by have := HN2.out; omega)).mono ?_
        rintro e w11 ⟨rfl, h11, s11⟩
        have bb11 := bb10.trans (s11.bel h10.sz)
        have HC11 := Lib.hid (s11.box ib HC10.out)
        clear y1 h10 bb10 HB10 HC10
        go_upto_region 18 with (fail)
        have hb12 : Below w11.heap.size w11 (w11.alloc (.cells #[.int .u64 (y : Int), .int .u64 (m : Int)] 53)) := (Below.refl _ _).alloc (Nat.le_refl _) _
        have h12 := h11.below hb12
        have bb12 := bb11.trans (hb12.mono bb11.size)
        have HC12 := Lib.hid ((Only.of_below (S := fun _ => False) hb12).blk (fun q => q) HC11.out)
        have HD12 := Lib.hid (heap_alloc_new w11 (.cells #[.int .u64 (y : Int), .int .u64 (m : Int)] 53))
        obtain ⟨qd, hqd⟩ : ∃ q, w11.heap.size = q := ⟨_, rfl⟩
        rw [hqd] at HD12
        rw [hqd]
        clear hqd hb12 h11 bb11 HC11
        generalize w11.alloc (.cells #[.int .u64 (y : Int), .int .u64 (m : Int)] 53) = w12 at h12 bb12 HC12 HD12 ⊢
        have u0 := cell_of_row _ _ 0 _ _ _ HC12.out
        have u1 := cell_of_row _ _ 1 _ _ _ HC12.out
        have v0 := cell_of_row _ _ 0 _ _ _ HD12.out
        have v1 := cell_of_row _ _ 1 _ _ _ HD12.out
        go_wp2_with fail
        go_roundg (gk - 1)
        case measure => have := HIK.out; omega
        case rel => exact ⟨i + 1, n2 + 1, _, by go_num, by have := HIK.out; omega, h12.less (by simp), by have := HN2.out; omega, bb12⟩
      · obtain rfl : i = k0 := by omega
        clear hik HIK hi
        go_wp2_with fail
        refine (w_clock wr c 0 n A hz.cq).mono ?_
        rintro e w3 ⟨rfl, rfl⟩
        go_wp2_with fail
        go_ret
        exact ⟨rfl, bz⟩
end Go.Proofs.Ytpagleilaaljoaa.W.HR
