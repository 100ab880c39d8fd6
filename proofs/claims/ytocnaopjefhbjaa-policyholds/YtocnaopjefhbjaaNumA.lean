/- Contracts of package num's functions that need no product: Add, Sub, Clamp, size, bounded. -/
import Derived.Test.YtocnaopjefhbjaaRows
import Derived.Test.YtocnaopjefhbjaaShelf
import Derived.WalkKit
import Derived.WalkSpells
import Derived.RowKit3
namespace Go.Proofs.Ytocnaopjefhbjaa
open Go.RowKit Go.Shelf

/-- The int64 that is nearest to a whole number. -/
def sat (x : Int) : Int := if x < -9223372036854775808 then -9223372036854775808 else if 9223372036854775807 < x then 9223372036854775807 else x

/-- A whole number that an int64 may be. -/
def I64 (x : Int) : Prop := -9223372036854775808 ≤ x ∧ x ≤ 9223372036854775807
def U64 (x : Int) : Prop := 0 ≤ x ∧ x ≤ 18446744073709551615

theorem i64_of {x : Int} (h : (Lit.int .i64 x).wf = true) : I64 x := by
  simp [Lit.wf, IntKind.min, IntKind.max, IntKind.signed, IntKind.bits] at h
  exact ⟨by omega, by omega⟩
theorem u64_of {x : Int} (h : (Lit.int .u64 x).wf = true) : U64 x := by
  simp [Lit.wf, IntKind.min, IntKind.max, IntKind.signed, IntKind.bits] at h
  exact ⟨by omega, by omega⟩
theorem ret_int {k : IntKind} {a b : Int} (h : a = b) : Ending.returned (.int k a) = .returned (.int k b) := by rw [h]

theorem sat_lo {x : Int} (h : x < -9223372036854775808) : sat x = -9223372036854775808 := by unfold sat; rw [if_pos h]
theorem sat_hi {x : Int} (h : 9223372036854775807 < x) : sat x = 9223372036854775807 := by unfold sat; rw [if_neg (by omega), if_pos h]
theorem sat_in {x : Int} (h : I64 x) : sat x = x := by unfold sat; obtain ⟨h1, h2⟩ := h; rw [if_neg (by omega), if_neg (by omega)]
theorem sat_i64 (x : Int) : I64 (sat x) := by unfold sat I64; split <;> (try split) <;> omega

set_option maxHeartbeats 400000 in
theorem add_any (a b : Int) (ha : I64 a) (hb : I64 b) (w : World) :
    Calls Try.prog 33 #[.int .i64 a, .int .i64 b] w fun e w' => e = .returned (.int .i64 (sat (a + b))) ∧ w = w' := by
  obtain ⟨a1, a2⟩ := ha; obtain ⟨b1, b2⟩ := hb
  go_enter Try.func33, Try.ntmps33
  go_wp2
  all_goals go_ret
  all_goals exact ⟨ret_int (by unfold wrap64 at *; unfold sat; split <;> (try split) <;> omega), rfl⟩

/-- hi, if n is above it, else n; and lo, if that is below it. -/
def clampI (n lo hi : Int) : Int := max (min n hi) lo

set_option maxHeartbeats 400000 in
theorem clamp_any (n lo hi : Int) (w : World) :
    Calls Try.prog 38 #[.int .i64 n, .int .i64 lo, .int .i64 hi] w fun e w' => e = .returned (.int .i64 (clampI n lo hi)) ∧ w = w' := by
  go_enter Try.func38, Try.ntmps38
  go_wp2
  go_ret
  exact ⟨rfl, rfl⟩

/-- A number of 128 bits, or the greatest int64. -/
def capI (h l : Int) : Int := if 0 < h ∨ 9223372036854775807 < l then 9223372036854775807 else l

set_option maxHeartbeats 400000 in
theorem bounded_any (h l : Int) (hh : U64 h) (hl : U64 l) (w : World) :
    Calls Try.prog 41 #[.int .u64 h, .int .u64 l] w fun e w' => e = .returned (.int .i64 (capI h l)) ∧ w = w' := by
  obtain ⟨a1, a2⟩ := hh; obtain ⟨b1, b2⟩ := hl
  go_enter Try.func41, Try.ntmps41
  go_wp2
  all_goals go_ret
  all_goals exact ⟨ret_int (by unfold capI; first | rw [if_pos (by omega)] | rw [if_neg (by omega)]), rfl⟩

end Go.Proofs.Ytocnaopjefhbjaa
