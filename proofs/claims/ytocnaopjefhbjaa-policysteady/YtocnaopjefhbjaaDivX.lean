/- The contract of math/bits.Div64. -/
import Derived.Test.YtocnaopjefhbjaaNumB
import Derived.Test.YtocnaopjefhbjaaDivM
import Derived.BigQuiet
import Derived.Deep.QuietTactic
import Derived.Deep.DeepCutAuto
import Derived.Deep.CutBlock
import Derived.Lib.Hide
namespace Go.Proofs.Ytocnaopjefhbjaa
open Go.RowKit Go.Shelf

set_option maxHeartbeats 400000 in
theorem div64_small (l y : Int) (hl : U64 l) (hy : 0 < y) (hy' : U64 y) (w : World) :
    Calls Try.prog 40 #[.int .u64 0, .int .u64 l, .int .u64 y] w fun e w' => e = .returned (.tuple #[.int .u64 (l / y), .int .u64 (l % y)]) ∧ ∃ n, w' = w.drewN n := by
  obtain ⟨l1, l2⟩ := hl; obtain ⟨y1, y2⟩ := hy'
  go_enter Try.func40, Try.ntmps40
  go_wp2
  go_quiet (fail)
  go_wp2
  go_ret2
  exact ⟨rfl, _, rfl⟩

theorem mask32 (a : Int) (h0 : 0 ≤ a) (h1 : a ≤ 18446744073709551615) : bits .and .u64 a 4294967295 = a % 4294967296 := by
  obtain ⟨n, rfl⟩ := Int.eq_ofNat_of_zero_le h0
  rw [Mul64.maskN n (by omega)]
  omega
theorem or_parts (a b : Int) (s : Nat) (h0 : 0 ≤ a) (h1 : 0 ≤ b) (h2 : b < 2 ^ s) (h3 : a * 2 ^ s + b < 18446744073709551616) : bits .or .u64 (a * 2 ^ s) b = a * 2 ^ s + b := by
  obtain ⟨n, rfl⟩ := Int.eq_ofNat_of_zero_le h0
  obtain ⟨m, rfl⟩ := Int.eq_ofNat_of_zero_le h1
  have e : (n : Int) * 2 ^ s = ((n * 2 ^ s : Nat) : Int) := by push_cast; rfl
  have h2' : m < 2 ^ s := by
    have : ((2 ^ s : Nat) : Int) = 2 ^ s := by push_cast; rfl
    omega
  rw [e] at h3 ⊢
  rw [bits_or_u64_nat _ _ (by omega) (by omega), ← Nat.shiftLeft_eq, ← Nat.shiftLeft_add_eq_or_of_lt h2']
  omega

theorem wrap_three {a b c z : Int} (h : a + b - c = z) (h0 : 0 ≤ z) (h1 : z < 18446744073709551616) : IntKind.u64.wrap (IntKind.u64.wrap (IntKind.u64.wrap a + b) - IntKind.u64.wrap c) = z := by
  simp only [IntKind.wrap_u64]
  omega

/-- The numbers of a division, made ready. -/
structure Ready (h l y : Int) (s : Nat) (Y u v : Int) : Prop where
  eY : Y = y * 2 ^ s
  lo : 9223372036854775808 ≤ Y
  hi : Y < 18446744073709551616
  all : (h * 18446744073709551616 + l) * 2 ^ s = u * 18446744073709551616 + v
  u0 : 0 ≤ u
  u1 : u < Y
  v0 : 0 ≤ v
  v1 : v < 18446744073709551616

theorem pow_parts (s : Nat) (hs : s ≤ 63) : (2 : Int) ^ s * 2 ^ (64 - s) = 18446744073709551616 := by
  rw [← Int.pow_add, show s + (64 - s) = 64 by omega]; rfl
theorem pow_pos' (s : Nat) : (0 : Int) < 2 ^ s := Int.pow_pos (by decide)

theorem ready {h l y : Int} {s : Nat} (hs : s ≤ 63) (h0 : 0 < h) (h1 : h < y) (l0 : 0 ≤ l) (l1 : l ≤ 18446744073709551615) (s3 : 9223372036854775808 ≤ y * 2 ^ s) (s4 : y * 2 ^ s < 18446744073709551616) :
    Ready h l y s (y * 2 ^ s) (h * 2 ^ s + l / 2 ^ (64 - s)) (l * 2 ^ s % 18446744073709551616) ∧ l / 2 ^ (64 - s) < 2 ^ s ∧ 0 ≤ l / 2 ^ (64 - s) := by
  have p1 := pow_parts s hs
  have p2 := pow_pos' s
  have p3 := pow_pos' (64 - s)
  have q0 : 0 ≤ l / 2 ^ (64 - s) := Int.ediv_nonneg l0 (by omega)
  have q1 : l / 2 ^ (64 - s) < 2 ^ s := Int.ediv_lt_of_lt_mul p3 (by omega)
  have q2 := Int.emod_add_mul_ediv l (2 ^ (64 - s))
  have q3 := Int.emod_nonneg l (show (2 : Int) ^ (64 - s) ≠ 0 by omega)
  have q4 := Int.emod_lt_of_pos l p3
  have hy : (h + 1) * 2 ^ s ≤ y * 2 ^ s := Int.mul_le_mul_of_nonneg_right (by omega) (by omega)
  rw [Int.add_mul] at hy
  have hh : 0 ≤ h * 2 ^ s := Int.mul_nonneg (by omega) (by omega)
  -- l * 2^s is so much of 2^64, and what is left
  have m1 : l * 2 ^ s = l % 2 ^ (64 - s) * 2 ^ s + l / 2 ^ (64 - s) * 18446744073709551616 := by
    conv => lhs; rw [← q2]
    rw [Int.add_mul, Int.mul_comm (2 ^ (64 - s)), Int.mul_assoc, Int.mul_comm (2 ^ (64 - s)), p1]
  have m2 : 0 ≤ l % 2 ^ (64 - s) * 2 ^ s := Int.mul_nonneg q3 (by omega)
  have m3 : l % 2 ^ (64 - s) * 2 ^ s < 18446744073709551616 := by
    have : l % 2 ^ (64 - s) * 2 ^ s < 2 ^ (64 - s) * 2 ^ s := Int.mul_lt_mul_of_pos_right q4 p2
    rw [Int.mul_comm (2 ^ (64 - s)), p1] at this
    exact this
  refine ⟨⟨rfl, s3, s4, ?_, by omega, by omega, by omega, by omega⟩, q1, q0⟩
  rw [Int.add_mul, Int.mul_right_comm, m1]
  generalize h * 2 ^ s = a at *
  generalize l % 2 ^ (64 - s) * 2 ^ s = b at *
  generalize l / 2 ^ (64 - s) = c at *
  omega

theorem ret_words {k k' : IntKind} {a b c d : Int} (h1 : a = c) (h2 : b = d) : Ending.returned (.tuple #[.int k a, .int k' b]) = .returned (.tuple #[.int k c, .int k' d]) := by rw [h1, h2]

theorem div_end {h l y : Int} {s : Nat} {Y u v e1 e0 d1 d0 q z q' : Int} (hR : Ready h l y s Y u v) (P : Parts u e1 d1 d0) (P2 : Parts z e0 d1 d0)
    (eY : Y = d1 * 4294967296 + d0) (eV : v = e1 * 4294967296 + e0) (Q : q = (u * 4294967296 + e1) / (d1 * 4294967296 + d0))
    (Z : z = (u * 4294967296 + e1) % (d1 * 4294967296 + d0)) (Q' : q' = (z * 4294967296 + e0) / (d1 * 4294967296 + d0)) :
    IntKind.u64.wrap (IntKind.u64.wrap (q * 4294967296) + q') = (h * 18446744073709551616 + l) / y ∧
    IntKind.u64.wrap (IntKind.u64.wrap (IntKind.u64.wrap (z * 4294967296) + e0) - IntKind.u64.wrap (q' * Y)) / 2 ^ s = (h * 18446744073709551616 + l) % y := by
  have b1 := digit_lt P
  have b2 := digit_lt P2
  have l2 := digit_left z e0 d1 d0
  have m2 := digit_less P2
  rw [← Q] at b1
  rw [← Q'] at b2 l2
  rw [← eY] at Q Z Q' l2 m2
  have hY : 0 < Y := by have := hR.lo; omega
  obtain ⟨t1, t2⟩ := two_digits (u := u) (d1 := e1) (d0 := e0) hY
  rw [← Q, ← Z, ← Q', ← eV, ← hR.all, hR.eY, (shifted (pow_pos' s)).1] at t1
  rw [← Z, ← eV, ← hR.all, hR.eY] at t2
  constructor
  · rw [← t1]
    simp only [IntKind.wrap_u64]
    omega
  · rw [wrap_three l2 m2.1 (by have := hR.hi; omega), hR.eY, t2, (shifted (pow_pos' s)).2]

set_option maxRecDepth 100000 in
set_option maxHeartbeats 1000000 in
theorem div64_big (h l y : Int) (hh : 0 < h) (hl : U64 l) (hy : h < y) (hy' : U64 y) (w : World) :
    Calls Try.prog 40 #[.int .u64 h, .int .u64 l, .int .u64 y] w fun e w' => e = .returned (.tuple #[.int .u64 ((h * 18446744073709551616 + l) / y), .int .u64 ((h * 18446744073709551616 + l) % y)]) ∧ w = w' := by
  obtain ⟨l1, l2⟩ := hl; obtain ⟨y1, y2⟩ := hy'
  obtain ⟨s, s1, s2, s3, s4⟩ := normal (show 0 < y by omega) y2
  obtain ⟨hR, r1, r2⟩ := ready s1 hh hy l1 l2 s3 s4
  have ru := hR.u1
  have hs0 : 0 ≤ h * 2 ^ s := Int.mul_nonneg (by omega) (by have := pow_pos' s; omega)
  have hs1 : h * 2 ^ s < 18446744073709551616 := by omega
  have S2 := Lib.hid s2
  clear s2
  have g1 : (y == 0) = false := by simp; omega
  have g2 : (h == 0) = false := by simp; omega
  go_enter Try.func40, Try.ntmps40
  go_wp2_with fail
  refine (Try.bits_LeadingZeros64 y _ (by omega) (by omega)).mono ?_
  rintro e w' ⟨rfl, rfl⟩
  rw [S2.out]
  go_upto_region 8 with (fail)
  go_cut [2] (fun a wc => ∃ Y : Int, 9223372036854775808 ≤ Y ∧ Y < 18446744073709551616 ∧ Hid (Y = y * 2 ^ s) ∧ a = .int .u64 Y ∧ w' = wc)
  case first =>
    go_wp2
    go_meet
    exact ⟨_, s3, s4, Lib.hid rfl, rfl, rfl⟩
  case rest =>
    obtain ⟨Y, Y1, Y2, Y3, rfl, rfl⟩ := hcut
    go_upto_region 9 with (fail)
    go_cut [9] (fun a wc => ∃ d : Int, 2147483648 ≤ d ∧ d < 4294967296 ∧ Hid (d = Y / 4294967296) ∧ a = .int .u64 d ∧ w' = wc)
    case first =>
      go_wp2
      go_meet
      exact ⟨_, by omega, by omega, Lib.hid rfl, rfl, rfl⟩
    case rest =>
      obtain ⟨d1, d11, d12, D1, rfl, rfl⟩ := hcut
      go_upto_region 10 with (fail)
      go_cut [10] (fun a wc => ∃ d : Int, 0 ≤ d ∧ d < 4294967296 ∧ Hid (d = Y % 4294967296) ∧ a = .int .u64 d ∧ w' = wc)
      case first =>
        go_wp2
        go_meet
        rw [mask32 Y (by omega) (by omega)]
        exact ⟨_, by omega, by omega, Lib.hid rfl, rfl, rfl⟩
      case rest =>
        obtain ⟨d0, d01, d02, D0, rfl, rfl⟩ := hcut
        go_upto_region 11 with (fail)
        go_cut [11] (fun a wc => ∃ d : Int, 0 ≤ d ∧ d < 18446744073709551616 ∧ Hid (d = h * 2 ^ s + l / 2 ^ (64 - s)) ∧ a = .int .u64 d ∧ w' = wc)
        case first =>
          go_wp2
          go_meet
          rw [or_parts h _ s (by omega) r2 r1 (by omega)]
          exact ⟨_, by omega, by omega, Lib.hid rfl, rfl, rfl⟩
        case rest =>
          obtain ⟨u, u1, u2, U, rfl, rfl⟩ := hcut
          clear r1 r2 ru hs0 hs1 s3 s4
          go_upto_region 12 with (fail)
          go_cut [12] (fun a wc => ∃ d : Int, 0 ≤ d ∧ d < 18446744073709551616 ∧ Hid (d = l * 2 ^ s % 18446744073709551616) ∧ a = .int .u64 d ∧ w' = wc)
          case first =>
            go_wp2
            go_meet
            refine ⟨l * 2 ^ s % 18446744073709551616, by omega, by omega, Lib.hid rfl, ?_, rfl⟩
            first | rfl | rw [IntKind.wrap_u64]
          case rest =>
            obtain ⟨v, v1, v2, V, rfl, rfl⟩ := hcut
            rw [← Y3.out, ← U.out, ← V.out] at hR
            clear U V
            go_upto_region 13 with (fail)
            go_cut [13] (fun a wc => ∃ d : Int, 0 ≤ d ∧ d < 4294967296 ∧ Hid (d = v / 4294967296) ∧ a = .int .u64 d ∧ w' = wc)
            case first =>
              go_wp2
              go_meet
              exact ⟨_, by omega, by omega, Lib.hid rfl, rfl, rfl⟩
            case rest =>
              obtain ⟨e1, e11, e12, E1, rfl, rfl⟩ := hcut
              go_upto_region 14 with (fail)
              go_cut [14] (fun a wc => ∃ d : Int, 0 ≤ d ∧ d < 4294967296 ∧ Hid (d = v % 4294967296) ∧ a = .int .u64 d ∧ w' = wc)
              case first =>
                go_wp2
                go_meet
                rw [mask32 v (by omega) (by omega)]
                exact ⟨_, by omega, by omega, Lib.hid rfl, rfl, rfl⟩
              case rest =>
                obtain ⟨e0, e01, e02, E0, rfl, rfl⟩ := hcut
                have P : Parts u e1 d1 d0 := ⟨d11, d12, d01, d02, u1, by have := hR.u1; have := D1.out; have := D0.out; omega, e11, e12⟩
                have eY : Hid (Y = d1 * 4294967296 + d0) := Lib.hid (by have := D1.out; have := D0.out; omega)
                have eV : Hid (v = e1 * 4294967296 + e0) := Lib.hid (by have := E1.out; have := E0.out; omega)
                clear D1 D0 E1 E0
                go_upto_region 15 with (fail)
                go_cut [15] (fun a wc => ∃ q : Int, Hid (q = u / d1) ∧ a = .int .u64 q ∧ w' = wc)
                case first =>
                  go_wp2
                  go_meet
                  exact ⟨_, Lib.hid rfl, rfl, rfl⟩
                case rest =>
                  obtain ⟨q, Q, rfl, rfl⟩ := hcut
                  have G := guess_first P
                  rw [← Q.out] at G
                  have G0 := G.2.2.2.1
                  have G1 := G.2.2.2.2
                  have Gq := guess_nonneg P G
                  have Gm : 0 ≤ q * d1 := Int.mul_nonneg Gq (by omega)
                  have Gl := G.2.2.1
                  go_upto_region 16 with (fail)
                  go_cut [16] (fun a wc => a = .int .u64 (u - q * d1) ∧ w' = wc)
                  case first =>
                    go_wp2
                    go_meet
                    exact ⟨rfl, rfl⟩
                  case rest =>
                    obtain ⟨rfl, rfl⟩ := hcut
                    clear Gm G0 G1 Gq Gl
                    go_upto_block 0 with (fail)
                    go_cut [15, 16] (fun a b wc => ∃ q r : Int, Hid (q = (u * 4294967296 + e1) / (d1 * 4294967296 + d0)) ∧ a = .int .u64 q ∧ b = .int .u64 r ∧ w' = wc)
                    case first =>
                      go_wp2_with fail
                      go_loop [15, 16] (fun a b => ∃ q r : Int, Guess u e1 d1 d0 q r ∧ a = .int .u64 q ∧ b = .int .u64 r) (fun a _ => (intOf a).toNat)
                      case atStart => exact ⟨_, _, G, rfl, rfl⟩
                      case round =>
                        clear G Q q
                        obtain ⟨q, r, G, rfl, rfl⟩ := hrel
                        have q0 := guess_nonneg P G
                        have q1 := G.2.2.1
                        have r0 := G.2.2.2.1
                        have r1 := G.2.2.2.2
                        by_cases hq : 4294967296 ≤ q
                        · by_cases hb : 4294967296 ≤ r + d1
                          · have E := Lib.hid (guess_break P G (Or.inl hq) hb)
                            go_wp2
                            go_meet
                            exact ⟨_, _, E, rfl, rfl, rfl⟩
                          · have E := guess_next P G (Or.inl hq) (by omega)
                            go_wp2
                            go_round
                            case rel => exact ⟨_, _, E, rfl, rfl⟩
                            case measure => simp [intOf]; omega
                        · have m0 : 0 ≤ q * d0 := Int.mul_nonneg q0 d01
                          have m1 : q * d0 ≤ 4294967295 * 4294967295 := Int.mul_le_mul (by omega) (by omega) d01 (by omega)
                          by_cases hc : 4294967296 * r + e1 < q * d0
                          · by_cases hb : 4294967296 ≤ r + d1
                            · have E := Lib.hid (guess_break P G (Or.inr hc) hb)
                              have o := guess_over P G (Or.inr hc)
                              have o' := (digit_lt P).1
                              have q2 : 1 ≤ q := by omega
                              clear o o'
                              go_wp2
                              go_meet
                              exact ⟨_, _, E, rfl, rfl, rfl⟩
                            · have E := guess_next P G (Or.inr hc) (by omega)
                              have o := guess_over P G (Or.inr hc)
                              have o' := (digit_lt P).1
                              have q2 : 1 ≤ q := by omega
                              clear o o'
                              go_wp2
                              go_round
                              case rel => exact ⟨_, _, E, rfl, rfl⟩
                              case measure => simp [intOf]; omega
                          · have E := Lib.hid (guess_last P G (by omega))
                            go_wp2
                            go_meet
                            exact ⟨_, _, E, rfl, rfl, rfl⟩
                    case rest =>
                      clear G Q q
                      obtain ⟨q, r, Q, rfl, rfl, rfl⟩ := hcut
                      go_upto_region 21 with (fail)
                      go_cut [17] (fun a wc => ∃ z : Int, Hid (z = (u * 4294967296 + e1) % (d1 * 4294967296 + d0)) ∧ a = .int .u64 z ∧ w' = wc)
                      case first =>
                        have ez := digit_left u e1 d1 d0
                        rw [← Q.out, ← eY.out] at ez
                        have hz := digit_less P
                        rw [← eY.out] at hz
                        have EZ := Lib.hid ez
                        clear ez
                        go_wp2
                        go_meet
                        refine ⟨_, Lib.hid rfl, ?_, rfl⟩
                        rw [wrap_three EZ.out hz.1 (by omega), eY.out]
                      case rest =>
                        obtain ⟨z, Z, rfl, rfl⟩ := hcut
                        have hz := digit_less P
                        rw [← Z.out] at hz
                        obtain ⟨z1, z2⟩ := hz
                        have P2 : Parts z e0 d1 d0 := ⟨d11, d12, d01, d02, z1, z2, e01, e02⟩
                        have z3 : z < 18446744073709551616 := by omega
                        go_upto_region 22 with (fail)
                        go_cut [18] (fun a wc => ∃ q : Int, Hid (q = z / d1) ∧ a = .int .u64 q ∧ w' = wc)
                        case first =>
                          go_wp2
                          go_meet
                          exact ⟨_, Lib.hid rfl, rfl, rfl⟩
                        case rest =>
                          obtain ⟨q', Q', rfl, rfl⟩ := hcut
                          have G := guess_first P2
                          rw [← Q'.out] at G
                          have G0 := G.2.2.2.1
                          have G1 := G.2.2.2.2
                          have Gq := guess_nonneg P2 G
                          have Gm : 0 ≤ q' * d1 := Int.mul_nonneg Gq (by omega)
                          have Gl := G.2.2.1
                          go_upto_region 23 with (fail)
                          go_cut [16] (fun a wc => a = .int .u64 (z - q' * d1) ∧ w' = wc)
                          case first =>
                            go_wp2
                            go_meet
                            exact ⟨rfl, rfl⟩
                          case rest =>
                            obtain ⟨rfl, rfl⟩ := hcut
                            clear Gm G0 G1 Gq Gl
                            go_upto_block 2 with (fail)
                            go_cut [18, 16] (fun a b wc => ∃ q r : Int, Hid (q = (z * 4294967296 + e0) / (d1 * 4294967296 + d0)) ∧ a = .int .u64 q ∧ b = .int .u64 r ∧ w' = wc)
                            case first =>
                              go_wp2_with fail
                              go_loop [18, 16] (fun a b => ∃ q r : Int, Guess z e0 d1 d0 q r ∧ a = .int .u64 q ∧ b = .int .u64 r) (fun a _ => (intOf a).toNat)
                              case atStart => exact ⟨_, _, G, rfl, rfl⟩
                              case round =>
                                clear G Q' q'
                                obtain ⟨q, r, G, rfl, rfl⟩ := hrel
                                have q0 := guess_nonneg P2 G
                                have q1 := G.2.2.1
                                have r0 := G.2.2.2.1
                                have r1 := G.2.2.2.2
                                by_cases hq : 4294967296 ≤ q
                                · by_cases hb : 4294967296 ≤ r + d1
                                  · have E := Lib.hid (guess_break P2 G (Or.inl hq) hb)
                                    go_wp2
                                    go_meet
                                    exact ⟨_, _, E, rfl, rfl, rfl⟩
                                  · have E := guess_next P2 G (Or.inl hq) (by omega)
                                    go_wp2
                                    go_round
                                    case rel => exact ⟨_, _, E, rfl, rfl⟩
                                    case measure => simp [intOf]; omega
                                · have m0 : 0 ≤ q * d0 := Int.mul_nonneg q0 d01
                                  have m1 : q * d0 ≤ 4294967295 * 4294967295 := Int.mul_le_mul (by omega) (by omega) d01 (by omega)
                                  by_cases hc : 4294967296 * r + e0 < q * d0
                                  · by_cases hb : 4294967296 ≤ r + d1
                                    · have E := Lib.hid (guess_break P2 G (Or.inr hc) hb)
                                      have o := guess_over P2 G (Or.inr hc)
                                      have o' := (digit_lt P2).1
                                      have q2 : 1 ≤ q := by omega
                                      clear o o'
                                      go_wp2
                                      go_meet
                                      exact ⟨_, _, E, rfl, rfl, rfl⟩
                                    · have E := guess_next P2 G (Or.inr hc) (by omega)
                                      have o := guess_over P2 G (Or.inr hc)
                                      have o' := (digit_lt P2).1
                                      have q2 : 1 ≤ q := by omega
                                      clear o o'
                                      go_wp2
                                      go_round
                                      case rel => exact ⟨_, _, E, rfl, rfl⟩
                                      case measure => simp [intOf]; omega
                                  · have E := Lib.hid (guess_last P2 G (by omega))
                                    go_wp2
                                    go_meet
                                    exact ⟨_, _, E, rfl, rfl, rfl⟩
                            case rest =>
                              clear G Q' q'
                              obtain ⟨q', r', Q', rfl, rfl, rfl⟩ := hcut
                              have E := Lib.hid (div_end hR P P2 eY.out eV.out Q.out Z.out Q'.out)
                              go_wp2
                              go_ret2
                              exact ⟨ret_words E.out.1 E.out.2, rfl⟩

/-- math/bits.Div64 where it does not panic: what two words by one are, and what is left. -/
theorem div64_any (h l y : Int) (hh : 0 ≤ h) (hl : U64 l) (hy : h < y) (hy' : U64 y) (w : World) :
    Calls Try.prog 40 #[.int .u64 h, .int .u64 l, .int .u64 y] w fun e w' => e = .returned (.tuple #[.int .u64 ((h * 18446744073709551616 + l) / y), .int .u64 ((h * 18446744073709551616 + l) % y)]) ∧ ∃ n, w' = w.drewN n := by
  by_cases h0 : h = 0
  · subst h0
    refine (div64_small l y hl hy hy' w).mono ?_
    rintro e w' ⟨rfl, hw⟩
    refine ⟨ret_words ?_ ?_, hw⟩ <;> simp
  · refine (div64_big h l y (by omega) hl hy hy' w).mono ?_
    rintro e w' ⟨rfl, rfl⟩
    exact ⟨rfl, 0, rfl⟩
end Go.Proofs.Ytocnaopjefhbjaa
