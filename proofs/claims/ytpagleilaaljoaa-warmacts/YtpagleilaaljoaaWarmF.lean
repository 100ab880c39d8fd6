/- The law WarmAll: its walk. -/
import Derived.Test.YtpagleilaaljoaaWarmC
import Derived.Test.YtpagleilaaljoaaActs
import Derived.Deep.RegionHeld3
namespace Go.Proofs.Ytpagleilaaljoaa.W.HR
open Go.RowKit
open Go.Proofs.Ytpagleilaaljoaa.R (order_any cmpI cmp_lt cmp_gt cmp_eq U64 Rat)
set_option linter.unusedVariables false

theorem below_2 {w w' : World} {x y : Array Value} {t : TypeId} (e : (w.alloc (.cells x t)).alloc (.cells y t) = w') : Below w.heap.size w w' := floor_below (Below.refl _ _) e
theorem lt_le {v v' : V} (h : lt v' v = false) : v.1 * v'.2.1 ≤ v'.1 * v.2.1 := by
  have := of_decide_eq_false h; omega
theorem lt_same {v v' : V} (h : lt v' v = false) (h' : lt v v' = false) : v.2.2 = v'.2.2 := by
  have h1 := of_decide_eq_false h
  have h2 := of_decide_eq_false h'
  omega
theorem floor_mono {a b p q : Nat} (hb : 0 < b) (hq : 0 < q) (h : a * q ≤ p * b) : a / b ≤ p / q := by
  rw [Nat.le_div_iff_mul_le hq]
  have h1 : a / b * b ≤ a := Nat.div_mul_le_self a b
  have h2 := Nat.mul_le_mul_right q h1
  have h3 : a / b * q * b ≤ p * b := by rw [Nat.mul_right_comm]; omega
  exact Nat.le_of_mul_le_mul_right h3 hb

theorem Cz.wrote {B : Nat} {L : List Nat} {w w' : World} {c cl n q : Nat} {A : Int → Option V} (h : Cz B L w c cl n A) (ho : Only w w' (fun j => j = q)) (hq : q ∈ L) : Cz B L w' c cl n A :=
  ⟨h.cq.kept ho (fun j p e => p.2 (by rw [e]; exact hq)), fun p hp => ⟨(h.lo p hp).1, Nat.lt_of_lt_of_le (h.lo p hp).2 ho.size⟩, Nat.le_trans h.sz ho.size⟩

set_option maxRecDepth 100000 in
set_option maxHeartbeats 800000 in
theorem clock_cell (w : World) (c cl : Nat) (c1 : w.cell? ⟨c, 1, none⟩ = some (.int .u64 (cl : Int))) :
    Calls Try.prog 29 #[.pointer (some ⟨c, 0, none⟩)] w fun e w' => e = .returned (.int .u64 (cl : Int)) ∧ w = w' := by
  go_enter Try.func29, Try.ntmps29
  go_wp2
  go_ret
  exact ⟨rfl, rfl⟩

theorem keep_all {g d c : Nat} {w6 w1 w2 : World} {a b p q k : Int} (hS : w1.cell? ⟨g, 0, none⟩ = some (.int .u64 a) ∧ w1.cell? ⟨g, 1, none⟩ = some (.int .u64 b) ∧ w1.cell? ⟨d, 0, none⟩ = some (.int .u64 p) ∧ w1.cell? ⟨d, 1, none⟩ = some (.int .u64 q) ∧ w1.cell? ⟨c, 1, none⟩ = some (.int .u64 k) ∧ Below w6.heap.size w6 w1) (hb : Below w1.heap.size w1 w2) :
    w2.cell? ⟨g, 0, none⟩ = some (.int .u64 a) ∧ w2.cell? ⟨g, 1, none⟩ = some (.int .u64 b) ∧ w2.cell? ⟨d, 0, none⟩ = some (.int .u64 p) ∧ w2.cell? ⟨d, 1, none⟩ = some (.int .u64 q) ∧ w2.cell? ⟨c, 1, none⟩ = some (.int .u64 k) ∧ Below w6.heap.size w6 w2 := by
  obtain ⟨h1, h2, h3, h4, h5, h6⟩ := hS
  exact ⟨by rw [hb.cell (cell_lt h1)]; exact h1, by rw [hb.cell (cell_lt h2)]; exact h2, by rw [hb.cell (cell_lt h3)]; exact h3, by rw [hb.cell (cell_lt h4)]; exact h4, by rw [hb.cell (cell_lt h5)]; exact h5, h6.trans (hb.mono h6.size)⟩
theorem held_all {g d c : Nat} {w6 w1 : World} {a b p q k : Int} (hS : w1.cell? ⟨g, 0, none⟩ = some (.int .u64 a) ∧ w1.cell? ⟨g, 1, none⟩ = some (.int .u64 b) ∧ w1.cell? ⟨d, 0, none⟩ = some (.int .u64 p) ∧ w1.cell? ⟨d, 1, none⟩ = some (.int .u64 q) ∧ w1.cell? ⟨c, 1, none⟩ = some (.int .u64 k) ∧ Below w6.heap.size w6 w1) : Below w6.heap.size w6 w1 ∧ w1.cell? ⟨c, 1, none⟩ = some (.int .u64 k) := ⟨hS.2.2.2.2.2, hS.2.2.2.2.1⟩

set_option maxRecDepth 100000 in
set_option maxHeartbeats 3200000 in
theorem all_walk (a0 : Option Addr) (k0 cap : Nat) (Z : Nat → Int) (_hc : k0 ≤ cap) (w : World) (L : Lies w w.heap.size a0 (zs Z (k0 * 5))) (wf : ∀ j, j < k0 * 5 → (Lit.int .i64 (Z j)).wf = true) :
    Calls Try.prog 8 #[.slice a0 k0 cap] w fun e w' => e = .returned (.bool true) ∧ Below w.heap.size w w' := by
  by_cases hk : 100 < k0
  · have hki : decide ((100 : Int) < (k0 : Int)) = true := by simp; omega
    go_enter Try.func8, Try.ntmps8
    go_wp2_with fail
    refine (head9 _).mono ?_
    rintro e w1 ⟨rfl, b1⟩
    go_wp2_with fail
    go_ret
    exact ⟨rfl, b1⟩
  · have hki : decide ((100 : Int) < (k0 : Int)) = false := by simp; omega
    go_enter Try.func8, Try.ntmps8
    go_wp2_with fail
    refine (head9 _).mono ?_
    rintro e w1 ⟨rfl, b1⟩
    go_wp2_with fail
    refine (z_new (B := w.heap.size) w1 b1.size).mono ?_
    rintro e w2 ⟨rfl, h2, b2⟩
    obtain ⟨c, hc⟩ : ∃ c, w1.heap.size = c := ⟨_, rfl⟩
    have bb2 := b1.trans (b2.mono b1.size)
    rw [hc] at h2 ⊢
    clear hc b1 b2
    go_wp2_with fail
    clear hki
    go_loopg [26] k0 (fun gk vi wr => ∃ (i n : Nat) (A : Int → Option V), vi = .int .i64 (i : Int) ∧ i + gk = k0 ∧ Cz w.heap.size [] wr c 0 n A ∧ n ≤ i ∧ Below w.heap.size w wr)
    case atStart => exact ⟨0, 0, _, rfl, by omega, h2, by omega, bb2⟩
    case round =>
      clear h2 bb2
      obtain ⟨i, n, A, rfl, hik, hz, hni, bz⟩ := hrel
      have HIK := Lib.hid hik
      by_cases hi : i < k0
      · obtain ⟨ad, ha, hab, hcell⟩ := (L.below bz (Nat.le_refl _)).num (j := i * 5) (by omega)
        have hii : (i : Int) < (k0 : Int) := by omega
        have x0 := hcell (i * 5) (by omega)
        have x1 := cell_in (c := 0) (hcell (i * 5 + 1) (by omega))
        have x2 := cell_in (c := 1) (hcell (i * 5 + 2) (by omega))
        have x3 := cell_in (c := 2) (hcell (i * 5 + 3) (by omega))
        have x4 := cell_in (c := 3) (hcell (i * 5 + 4) (by omega))
        rw [Nat.zero_add] at x1
        rw [show (1 : Nat) + 1 = 2 from rfl] at x2
        rw [show (2 : Nat) + 1 = 3 from rfl] at x3
        rw [show (3 : Nat) + 1 = 4 from rfl] at x4
        obtain ⟨z0, hz0⟩ : ∃ z, Z (i * 5) = z := ⟨_, rfl⟩
        obtain ⟨z1, hz1⟩ : ∃ z, Z (i * 5 + 1) = z := ⟨_, rfl⟩
        obtain ⟨z2, hz2⟩ : ∃ z, Z (i * 5 + 2) = z := ⟨_, rfl⟩
        obtain ⟨z3, hz3⟩ : ∃ z, Z (i * 5 + 3) = z := ⟨_, rfl⟩
        obtain ⟨z4, hz4⟩ : ∃ z, Z (i * 5 + 4) = z := ⟨_, rfl⟩
        rw [hz0] at x0
        rw [hz1] at x1
        rw [hz2] at x2
        rw [hz3] at x3
        rw [hz4] at x4
        subst ha
        clear hcell hik hz0 hz1 hz2 hz3 hz4
        obtain ⟨d, hd, hd1⟩ := and_nat z1 255 8 256 (by decide) (by decide) (by decide)
        obtain ⟨o, ho, ho1⟩ := and_nat z2 1023 10 1024 (by decide) (by decide) (by decide)
        obtain ⟨k, hk, hk1⟩ := and_nat z3 1023 10 1024 (by decide) (by decide) (by decide)
        obtain ⟨m0, hm0, hm1⟩ := and_nat z4 4095 12 4096 (by decide) (by decide) (by decide)
        obtain ⟨m, hm⟩ : ∃ m, m = 1 + m0 := ⟨_, rfl⟩
        have hmI : (1 : Int) + (m0 : Int) = (m : Int) := by omega
        have hoI : (o : Int) < 1024 := by omega
        have hkI : (k : Int) < 1024 := by omega
        have hmI2 : (m : Int) < 4097 := by omega
        have hm0' : 0 < m := by omega
        have hm64 : m < 4097 := by omega
        clear hm hm1
        have hokle : o * k ≤ 1023 * 1023 := Nat.mul_le_mul (by omega) (by omega)
        obtain ⟨y, hy⟩ : ∃ y, y = o * k := ⟨_, rfl⟩
        have hy1 : y ≤ 1046529 := by omega
        have HY := Lib.hid hy
        have HOK := Lib.hid hokle
        clear hy hokle
        obtain ⟨n1, hn1⟩ : ∃ n1, n1 = if (A (d : Int)).isSome then n else n + 1 := ⟨_, rfl⟩
        have hn1' : n1 ≤ n + 1 := by rw [hn1]; split <;> omega
        have HN1 := Lib.hid hn1
        clear hn1
        have hb3 : Below wr.heap.size wr (wr.alloc (.cells #[.int .i64 z0, .int .i64 z1, .int .i64 z2, .int .i64 z3, .int .i64 z4] 51)) := (Below.refl _ _).alloc (Nat.le_refl _) _
        have h3 := hz.below hb3
        have bb3 := bz.trans (hb3.mono bz.size)
        clear hb3
        go_wp2_with fail
        refine (z_set _ c 0 n A (d : Int) o k m y h3 (Go.WalkArith.wf_i64 ⟨by omega, by omega⟩) (by decide) (by have := HOK.out; omega) hm0' (by omega) (by rw [HY.out]; omega) (by omega) (by omega) n1 HN1.out).mono ?_
        rintro e w4 ⟨rfl, h4, s4⟩
        have bb4 := bb3.trans (s4.bel h3.sz)
        clear ho hk hm0 hd x0 x1 x2 x3 x4
        go_wp2_with fail
        go_roundg (gk - 1)
        case measure => have := HIK.out; omega
        case rel => exact ⟨i + 1, n1, _, by go_num, by have := HIK.out; omega, h4, by omega, bb4⟩
      · obtain rfl : i = k0 := by omega
        clear hik HIK hi
        go_wp2_with fail
        refine (z_len wr c 0 n A hz).mono ?_
        rintro e w3 ⟨rfl, h3, s3⟩
        have bb3 := bz.trans (s3.bel hz.sz)
        go_upto_region 13 with (fail)
        have h4 := h3.alloc (.cells #[.int .u64 0, .int .u64 1] 53)
        have hb4 : Below w3.heap.size w3 (w3.alloc (.cells #[.int .u64 0, .int .u64 1] 53)) := (Below.refl _ _).alloc (Nat.le_refl _) _
        have bb4 := bb3.trans (hb4.mono bb3.size)
        have hrow : Row icR 2 53 (w3.alloc (.cells #[.int .u64 0, .int .u64 1] 53)) w3.heap.size 1 1 (fun _ => (0, 1)) := row_new w3 0 1
        have HRW := Lib.hid hrow
        obtain ⟨ql, hql⟩ : ∃ q, w3.heap.size = q := ⟨_, rfl⟩
        rw [hql] at h4 HRW
        rw [hql]
        clear hql hb4 h3 bb3 hz bz s3 hrow
        generalize w3.alloc (.cells #[.int .u64 0, .int .u64 1] 53) = w4 at h4 bb4 HRW ⊢
        go_wp2_with fail
        go_loopg [8, 9] n (fun gk vc vi wr => ∃ (j cl lp lq : Nat) (A : Int → Option V), vi = .int .i64 (j : Int) ∧ vc = .int .u64 (cl : Int) ∧ j + gk = n ∧ Cz w.heap.size [ql] wr c cl gk A ∧ Hid (Row icR 2 53 wr ql 1 1 (fun _ => (lp, lq))) ∧ Hid (cl = lp / lq ∧ 0 < lq ∧ lq < 18446744073709551616 ∧ lp < 18446744073709551616) ∧ Hid (∀ z v, A z = some v → lp * v.2.1 ≤ v.1 * lq) ∧ Below w.heap.size w wr)
        case atStart => exact ⟨0, 0, 0, 1, _, rfl, rfl, by omega, h4, HRW, Lib.hid ⟨by decide, by decide, by decide, by decide⟩, Lib.hid (fun z v _ => by omega), bb4⟩
        case round =>
          clear h4 bb4 HRW
          obtain ⟨j, cl, lp, lq, A1, rfl, rfl, hjk, h4, HRW, HCL, HLE, bb4⟩ := hrel
          have HJK := Lib.hid hjk
          by_cases hj : j < n
          · have hji : (j : Int) < (n : Int) := by omega
            have hg0 : 0 < gk := by omega
            have hg9 : gk < 1073741824 := by omega
            have iq : ql ∈ [ql] := by simp
            clear hjk
            go_wp2_with fail
            refine (z_least wr c cl gk A1 h4 hg0 hg9).mono ?_
            rintro e w5 ⟨id, ⟨p, q, dd⟩, rfl, hA, hmin, h5, s5⟩
            have bb5 := bb4.trans (s5.bel h4.sz)
            have HR5 := Lib.hid (HRW.out.kept s5 (fun e => e.2 iq))
            obtain ⟨hidd, ⟨hp64, hq0, hq64, _⟩, hidw, _⟩ := h5.cq.ids hA
            have HA := Lib.hid hA
            have HMIN := Lib.hid hmin
            have HID := Lib.hid hidd
            clear hA hmin hidd h4 bb4 HRW
            go_wp2_with fail
            refine (z_worth w5 c cl gk A1 h5 id p q dd HA.out hg9).mono ?_
            rintro e w6 ⟨rfl, h6, s6⟩
            have bb6 := bb5.trans (s6.bel h5.sz)
            have HR6 := Lib.hid (HR5.out.kept s6 (fun e => e.2 iq))
            clear h5 bb5 HR5
            go_upto_region 19 with (fail)
            have h7 := h6.alloc (.cells #[.int .u64 (p : Int), .int .u64 (q : Int)] 53)
            have hb7 : Below w6.heap.size w6 (w6.alloc (.cells #[.int .u64 (p : Int), .int .u64 (q : Int)] 53)) := (Below.refl _ _).alloc (Nat.le_refl _) _
            have bb7 := bb6.trans (hb7.mono bb6.size)
            have HR7 := Lib.hid (HR6.out.kept (Only.of_below (S := fun _ => False) hb7) (fun q => q))
            have HB7 := Lib.hid (heap_alloc_new w6 (.cells #[.int .u64 (p : Int), .int .u64 (q : Int)] 53))
            obtain ⟨qd, hqd⟩ : ∃ q, w6.heap.size = q := ⟨_, rfl⟩
            rw [hqd] at h7 HB7
            rw [hqd]
            clear hqd hb7 h6 bb6 HR6
            generalize w6.alloc (.cells #[.int .u64 (p : Int), .int .u64 (q : Int)] 53) = w7 at h7 bb7 HR7 HB7 ⊢
            have ja : ql ∈ [qd, ql] := by simp
            have jb : qd ∈ [qd, ql] := by simp
            obtain ⟨g1, hg1⟩ : ∃ g1, gk = g1 + 1 := ⟨gk - 1, by omega⟩
            have HG1 := Lib.hid hg1
            clear hg1
            go_wp2_with fail
            refine (z_evict w7 c cl gk A1 h7 g1 HG1.out hg9).mono ?_
            rintro e w8 ⟨id', v', rfl, hA', hmin', h8, s8⟩
            have hsame : id' = id ∧ v' = (p, q, dd) := by
              have e1 := lt_same (HMIN.out _ _ hA') (hmin' _ _ HA.out)
              have e2 := (h7.cq.ids hA').1
              have e3 : id' = id := by rw [← e2, ← HID.out, ← e1]
              subst e3
              rw [HA.out] at hA'
              injection hA' with hA'
              exact ⟨rfl, hA'.symm⟩
            obtain ⟨rfl, rfl⟩ := hsame
            have bb8 := bb7.trans (s8.bel h7.sz)
            have HR8 := Lib.hid (HR7.out.kept s8 (fun e => e.2 ja))
            have HB8 := Lib.hid (s8.box jb HB7.out)
            obtain ⟨hcl, hlq0, hlq64, hlp64⟩ := HCL.out
            have hle := HLE.out _ _ HA.out
            obtain ⟨nc, hnc⟩ : ∃ nc, nc = p / q := ⟨_, rfl⟩
            have hmono := floor_mono (a := lp) (b := lq) (p := p) (q := q) hlq0 hq0 hle
            have h9 : Cz w.heap.size [qd, ql] w8 c nc g1 (updZ A1 id' none) := by
              have e1 : max cl (p / q) = nc := by omega
              have h8' : Cz w.heap.size [qd, ql] w8 c (max cl (p / q)) g1 (updZ A1 id' none) := h8
              rw [e1] at h8'; exact h8'
            have hcln : cl ≤ nc := by omega
            clear h8 hA' hmin' h7 bb7 HR7 HB7 hmono
            have k0 : w8.cell? ⟨ql, 0, none⟩ = some (.int .u64 (lp : Int)) := HR8.out.cell (c := 0) (j := 0) (by decide) rfl rfl
            have k1 : w8.cell? ⟨ql, 1, none⟩ = some (.int .u64 (lq : Int)) := HR8.out.cell (c := 1) (j := 0) (by decide) rfl rfl
            have k2 : w8.cell? ⟨qd, 0, none⟩ = some (.int .u64 (p : Int)) := cell_of_row _ _ 0 _ _ _ HB8.out
            have k3 : w8.cell? ⟨qd, 1, none⟩ = some (.int .u64 (q : Int)) := cell_of_row _ _ 1 _ _ _ HB8.out
            have k4 := h9.cq.clock
            obtain ⟨qI, hqI⟩ : ∃ x : Int, x = (q : Int) := ⟨_, rfl⟩
            rw [← hqI] at k3
            have HS0 := Lib.hid (show w8.drew.cell? ⟨ql, 0, none⟩ = some (.int .u64 (lp : Int)) ∧ w8.drew.cell? ⟨ql, 1, none⟩ = some (.int .u64 (lq : Int)) ∧ w8.drew.cell? ⟨qd, 0, none⟩ = some (.int .u64 (p : Int)) ∧ w8.drew.cell? ⟨qd, 1, none⟩ = some (.int .u64 qI) ∧ w8.drew.cell? ⟨c, 1, none⟩ = some (.int .u64 (nc : Int)) ∧ Below w8.heap.size w8 w8.drew from ⟨k0, k1, k2, k3, k4, below_drewN (Below.refl _ _) 1⟩)
            obtain ⟨C, hC⟩ : ∃ C, cmpI ((lp : Int) * qI) ((p : Int) * (lq : Int)) = C := ⟨_, rfl⟩
            have hord := fun w => order_any (lp : Int) (lq : Int) (p : Int) qI (u64n hlp64) (u64n hlq64) (u64n hp64) (by rw [hqI]; exact u64n hq64) (by omega) (by omega) w
            rw [hC] at hord
            have hC0 : decide ((0 : Int) < C) = false := by
              rw [← hC, hqI]
              have hle' : (lp : Int) * (q : Int) ≤ (p : Int) * (lq : Int) := by rw [← Int.natCast_mul, ← Int.natCast_mul]; exact Int.ofNat_le.2 hle
              unfold cmpI; split
              · decide
              · split
                · omega
                · decide
            have hq0I : (0 : Int) < qI := by omega
            have hqne : ¬ qI = 0 := by omega
            have hquo : (p : Int) / qI = (nc : Int) := by rw [hnc, hqI]; exact (Int.natCast_ediv p q).symm
            have hquo2 : Int.tdiv (p : Int) qI = (nc : Int) := by rw [Int.tdiv_eq_ediv_of_nonneg (by omega)]; exact hquo
            have hclnd : decide ((nc : Int) < (cl : Int)) = false := by simp; omega
            have hwr : IntKind.u64.wrap (nc : Int) = (nc : Int) := by
              have : nc ≤ p := by rw [hnc]; exact Nat.div_le_self p q
              rw [IntKind.wrap_u64]; omega
            have HQ := Lib.hid hquo
            have HNC := Lib.hid hnc
            have HHLE := Lib.hid hle
            have HCLL := Lib.hid hcl
            have HQI := Lib.hid hqI
            clear hC hquo hnc hle hcl k0 k1 k2 k3 k4 hqI
            go_upto_region 20 with (fail)
            generalize (cl : Int) = clI at hclnd ⊢
            go_region_held3 (fun w' => w'.cell? ⟨ql, 0, none⟩ = some (.int .u64 (lp : Int)) ∧ w'.cell? ⟨ql, 1, none⟩ = some (.int .u64 (lq : Int)) ∧ w'.cell? ⟨qd, 0, none⟩ = some (.int .u64 (p : Int)) ∧ w'.cell? ⟨qd, 1, none⟩ = some (.int .u64 qI) ∧ w'.cell? ⟨c, 1, none⟩ = some (.int .u64 (nc : Int)) ∧ Below w8.heap.size w8 w') (first | exact HS0.out | assumption | exact keep_all (by assumption) (by assumption))
              (first
                | (go_at_call 31; refine (hord _).mono ?_; rintro e w' ⟨rfl, y1, y2, hw9⟩; have hbw := below_2 hw9; clear hw9)
                | (go_at_call 29; refine (clock_cell _ c nc (held_all (by assumption)).2).mono ?_; rintro e w' ⟨rfl, rfl⟩))
            have hqq := HQI.out
            subst hqq
            have hbF : Below w8.heap.size w8 w' := (held_all (by assumption)).1
            have h10 := h9.below hbF
            have bb10 := bb8.trans (hbF.mono bb8.size)
            have HR10 := Lib.hid (HR8.out.kept (Only.of_below (S := fun _ => False) hbF) (fun q => q))
            have HB10 := Lib.hid ((Only.of_below (S := fun _ => False) hbF).blk (fun q => q) HB8.out)
            clear h9 bb8 HR8 HB8 hbF hbw HS0 hord hquo2 hqne hC0 hclnd
            have z0 := cell_of_row _ _ 0 _ _ _ HB10.out
            have z1 := cell_of_row _ _ 1 _ _ _ HB10.out
            go_upto_region 23 with (refine wpList_item_set encR rfl 53 (.tmp 7) (.tmp 110) rfl sizeR ql 1 1 0 (fun _ => (lp, lq)) rfl (p, q) rfl HR10.out (by decide) ?_; intro w11 hrow11 hg11)
            have hO11 : Only w' w11 (fun j => j = ql) := Only.grown hg11 (Or.inl rfl)
            have h11 : Cz w.heap.size [ql] w11 c nc g1 (updZ A1 id' none) := by
              have h10' := h10.less (L' := [ql]) (by simp)
              exact h10'.wrote hO11 (by simp)
            go_wp2_with fail
            refine (w_clock w11 c nc g1 _ h11.cq).mono ?_
            rintro e w12 ⟨rfl, rfl⟩
            go_wp2_with fail
            go_roundg g1
            case measure => have := HG1.out; omega
            case rel =>
              refine ⟨j + 1, nc, p, q, _, by go_num, rfl, by have := HJK.out; have := HG1.out; omega, h11, Lib.hid (hrow11.ext (fun j hj => ?_)), Lib.hid ⟨HNC.out, hq0, hq64, hp64⟩, Lib.hid ?_, ?_⟩
              · obtain rfl : j = 0 := by omega
                rw [upd_same]
              · intro z v hq
                unfold updZ at hq; split at hq
                · cases hq
                · exact lt_le (HMIN.out z v hq)
              · exact bb10.trans (hO11.below (fun j e => by rw [e]; exact (h10.lo ql ja).1) h10.sz)
          · obtain rfl : j = n := by omega
            obtain rfl : gk = 0 := by omega
            clear hjk HJK
            go_wp2_with fail
            refine (z_evict0 wr c cl A1 h4).mono ?_
            rintro e w5 ⟨rfl, h5, s5⟩
            have bb5 := bb4.trans (s5.bel h4.sz)
            go_wp2_with fail
            refine (z_len w5 c cl 0 A1 h5).mono ?_
            rintro e w6 ⟨rfl, h6, s6⟩
            go_wp2_with fail
            go_ret
            exact ⟨rfl, bb5.trans (s6.bel h5.sz)⟩
end Go.Proofs.Ytpagleilaaljoaa.W.HR
