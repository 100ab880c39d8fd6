/- Wide numbers, as the law's page reckons by them: of, add, neg, near. -/
import Derived.Test.YtidgehimdbhjcaaNumH
import Derived.StillTactics
import Derived.Laws.Pointers
import Derived.Deep.RegionHeld3
namespace Go.Proofs.Ytidgehimdbhjcaa
open Go.RowKit Go.Shelf

def whi (x : Int) : Int := x / 18446744073709551616 % 18446744073709551616
def wlo (x : Int) : Int := x % 18446744073709551616
theorem whi_u (x : Int) : 0 ≤ whi x ∧ whi x < 18446744073709551616 := by unfold whi; omega
theorem wlo_u (x : Int) : 0 ≤ wlo x ∧ wlo x < 18446744073709551616 := by unfold wlo; omega
/-- A whole number as a wide one. -/
def Wide (x : Int) : Value := .agg #[.int .u64 (whi x), .int .u64 (wlo x)]

theorem add64_run (x y c : Int) (hx : 0 ≤ x) (hy : 0 ≤ y) (hc0 : 0 ≤ c) (hc : c ≤ 1) (w : World) :
    (callFunc 35 #[.int .u64 x, .int .u64 y, .int .u64 c]).run Try.prog w =
    .ok (.value (.tuple #[.int .u64 ((x + y + c) % 18446744073709551616), .int .u64 ((x + y + c) / 18446744073709551616)])) w := by
  obtain ⟨x, rfl⟩ := Int.eq_ofNat_of_zero_le hx
  obtain ⟨y, rfl⟩ := Int.eq_ofNat_of_zero_le hy
  obtain ⟨c, rfl⟩ := Int.eq_ofNat_of_zero_le hc0
  refine (Any7.bits_Add64 Try.lays25 x y c (by omega) w).trans ?_
  congr 5 <;> omega
theorem add_step {x y c r d : Int} (hx : 0 ≤ x) (hy : 0 ≤ y) (hc0 : 0 ≤ c) (hc : c ≤ 1) (h1 : (x + y + c) % 18446744073709551616 = r) (h2 : (x + y + c) / 18446744073709551616 = d) (w : World) :
    (callFunc 35 #[.int .u64 x, .int .u64 y, .int .u64 c]).run Try.prog w = .ok (.value (.tuple #[.int .u64 r, .int .u64 d])) w := by
  rw [add64_run x y c hx hy hc0 hc w, h1, h2]

theorem wide_ext {a b c d : Int} (h1 : a = c) (h2 : b = d) : Ending.returned (.agg #[.int .u64 a, .int .u64 b]) = .returned (.agg #[.int .u64 c, .int .u64 d]) := by rw [h1, h2]

set_option maxHeartbeats 400000 in
theorem of_any (a : Int) (ha : I64 a) (w : World) :
    Calls Try.prog 19 #[.int .i64 a] w fun e w' => e = .returned (Wide a) ∧ ∃ c : Array Value, w.alloc (.cells c 27) = w' := by
  obtain ⟨a1, a2⟩ := ha
  unfold Wide
  by_cases h : a < 0
  · have e1 : whi a = 18446744073709551615 := by unfold whi; omega
    have e2 : wlo a = a + 18446744073709551616 := by unfold wlo; omega
    have E1 := Lib.hid e1
    have E2 := Lib.hid e2
    clear e1 e2
    go_enter Try.func19, Try.ntmps19
    go_wp2
    refine bodyPost_ret (v := .agg #[.int .u64 18446744073709551615, .int .u64 (IntKind.u64.wrap a)]) (by simp [results, Try.results19, go_sem]) rfl ⟨wide_ext E1.out.symm ?_, _, rfl⟩
    rw [E2.out, IntKind.wrap_u64]; omega
  · have e1 : whi a = 0 := by unfold whi; omega
    have e2 : wlo a = a := by unfold wlo; omega
    have E1 := Lib.hid e1
    have E2 := Lib.hid e2
    clear e1 e2
    go_enter Try.func19, Try.ntmps19
    go_wp2
    exact bodyPost_ret (v := .agg #[.int .u64 0, .int .u64 a]) (by simp [results, Try.results19, go_sem]) rfl ⟨wide_ext E1.out.symm E2.out.symm, _, rfl⟩

set_option maxHeartbeats 400000 in
theorem wadd_any (x y : Int) (w : World) :
    Calls Try.prog 18 #[Wide x, Wide y] w fun e w' => e = .returned (Wide (x + y)) ∧ ∃ c d f : Array Value, ((w.alloc (.cells c 27)).alloc (.cells d 27)).alloc (.cells f 27) = w' := by
  unfold Wide
  have hx := whi_u x; have hy := whi_u y; have lx := wlo_u x; have ly := wlo_u y
  obtain ⟨k, hk⟩ : ∃ k, (wlo x + wlo y + 0) / 18446744073709551616 = k := ⟨_, rfl⟩
  have S1 := add_step (x := wlo x) (y := wlo y) (c := 0) (r := wlo (x + y)) (d := k) lx.1 ly.1 (by omega) (by omega) (by unfold wlo; omega) hk
  obtain ⟨k', hk'⟩ : ∃ k', (whi x + whi y + k) / 18446744073709551616 = k' := ⟨_, rfl⟩
  have S2 := add_step (x := whi x) (y := whi y) (c := k) (r := whi (x + y)) (d := k') hx.1 hy.1 (by omega) (by omega) (by unfold whi wlo at *; omega) hk'
  clear hk hk' hx hy lx ly
  go_enter Try.func18, Try.ntmps18
  go_wp2
  exact bodyPost_ret (v := .agg #[.int .u64 (whi (x + y)), .int .u64 (wlo (x + y))]) (by simp [results, Try.results18, go_sem]) rfl ⟨rfl, _, _, _, rfl⟩

theorem neg_words (x : Int) : whi (-1 - x) = 18446744073709551615 - whi x ∧ wlo (-1 - x) = 18446744073709551615 - wlo x := by unfold whi wlo; omega
theorem wide_one : Wide 1 = .agg #[.int .u64 0, .int .u64 1] := by unfold Wide; rfl

theorem not_u64 (a : Int) (h0 : 0 ≤ a) (h1 : a < 18446744073709551616) : bits .xor .u64 IntKind.u64.max a = 18446744073709551615 - a := by
  have hm : BitVec.ofInt 64 IntKind.u64.max = BitVec.allOnes 64 := by decide
  have key : (BitVec.ofInt 64 IntKind.u64.max ^^^ BitVec.ofInt 64 a).toNat = 2 ^ 64 - 1 - (a % ((2 ^ 64 : Nat) : Int)).toNat := by
    rw [hm, BitVec.allOnes_xor, BitVec.toNat_not, BitVec.toNat_ofInt]
  show IntKind.u64.wrap ((BitVec.ofInt 64 IntKind.u64.max ^^^ BitVec.ofInt 64 a).toNat : Nat) = _
  rw [key, IntKind.wrap_u64]
  omega
theorem wide_not (x : Int) : Value.agg #[.int .u64 (bits .xor .u64 IntKind.u64.max (whi x)), .int .u64 (bits .xor .u64 IntKind.u64.max (wlo x))] = Wide (-1 - x) := by
  have h0 := whi_u x; have l0 := wlo_u x
  rw [not_u64 _ h0.1 h0.2, not_u64 _ l0.1 l0.2]
  unfold Wide
  rw [(neg_words x).1, (neg_words x).2]

set_option maxHeartbeats 400000 in
theorem neg_any (x : Int) (w : World) :
    Calls Try.prog 21 #[Wide x] w fun e w' => e = .returned (Wide (-x)) ∧ ∃ c d f g h : Array Value, ((((w.alloc (.cells c 27)).alloc (.cells d 27)).alloc (.cells f 27)).alloc (.cells g 27)).alloc (.cells h 27) = w' := by
  have h0 := whi_u x; have l0 := wlo_u x
  conv => arg 3; unfold Wide
  go_enter Try.func21, Try.ntmps21
  go_wp2_with fail
  rw [wide_not x, ← wide_one]
  refine (wadd_any (-1 - x) 1 _).mono ?_
  rintro e w' ⟨rfl, c, d, f, rfl⟩
  rw [show -1 - x + 1 = -x by omega]
  unfold Wide
  go_wp2_with fail
  exact bodyPost_ret (v := .agg #[.int .u64 (whi (-x)), .int .u64 (wlo (-x))]) (by simp [results, Try.results21, go_sem]) rfl ⟨rfl, _, _, _, _, _, rfl⟩

/-- The int64 that is nearest to a wide number. -/
theorem near_in {x : Int} (h : -170141183460469231731687303715884105728 ≤ x ∧ x < 170141183460469231731687303715884105728) :
    ((whi x = 0 ∧ wlo x ≤ 9223372036854775807) → sat x = wlo x) ∧
    ((whi x = 18446744073709551615 ∧ 9223372036854775808 ≤ wlo x) → sat x = wlo x - 18446744073709551616) ∧
    (¬ (whi x = 0 ∧ wlo x ≤ 9223372036854775807) → ¬ (whi x = 18446744073709551615 ∧ 9223372036854775808 ≤ wlo x) → (9223372036854775808 ≤ whi x → sat x = -9223372036854775808) ∧ (whi x < 9223372036854775808 → sat x = 9223372036854775807)) := by
  have e : x = (if 9223372036854775808 ≤ whi x then whi x - 18446744073709551616 else whi x) * 18446744073709551616 + wlo x := by
    unfold whi wlo
    split <;> omega
  have l := wlo_u x
  have u := whi_u x
  generalize whi x = a at *
  generalize wlo x = b at *
  split at e
  · refine ⟨by omega, fun k => ?_, fun k1 k2 => ⟨fun _ => ?_, by omega⟩⟩
    · rw [sat_in ⟨by omega, by omega⟩]; omega
    · rw [sat_lo (by omega)]
  · refine ⟨fun k => ?_, by omega, fun k1 k2 => ⟨by omega, fun _ => ?_⟩⟩
    · rw [sat_in ⟨by omega, by omega⟩]; omega
    · rw [sat_hi (by omega)]

set_option maxHeartbeats 1000000 in
theorem near_any (x : Int) (h : -170141183460469231731687303715884105728 ≤ x ∧ x < 170141183460469231731687303715884105728) (w : World) :
    Calls Try.prog 17 #[Wide x] w fun e w' => e = .returned (.int .i64 (sat x)) ∧ ∃ c : Array Value, w.alloc (.cells c 27) = w' := by
  have N := Lib.hid (near_in h)
  have l := wlo_u x
  have u := whi_u x
  unfold Wide
  clear h
  obtain ⟨S, hS⟩ : ∃ S, sat x = S := ⟨_, rfl⟩
  rw [hS]
  have N2 : Hid _ := Lib.hid (hS ▸ N.out)
  clear N hS
  generalize whi x = a at *
  generalize wlo x = b at *
  obtain ⟨l1, l2⟩ := l
  obtain ⟨u1, u2⟩ := u
  go_enter Try.func17, Try.ntmps17
  go_wp2
  all_goals go_ret
  all_goals
    refine ⟨ret_int ?_, _, rfl⟩
    have N3 := N2.out
    clear N2
    try simp only [beq_iff_eq, beq_eq_false_iff_ne, ne_eq] at *
    try unfold wrap64
    omega
end Go.Proofs.Ytidgehimdbhjcaa
