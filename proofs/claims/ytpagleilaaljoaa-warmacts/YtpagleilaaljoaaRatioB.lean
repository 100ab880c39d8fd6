/- Contracts of ratio.Floor and ratio.Above, and the document's example of package ratio. -/
import Derived.Test.YtpagleilaaljoaaRatioA
namespace Go.Proofs.Ytpagleilaaljoaa.R
open Go.RowKit Go.Shelf

set_option maxHeartbeats 400000 in
theorem floor_any (n d : Int) (hn : U64 n) (hd : U64 d) (w : World) :
    Calls Try.prog 36 #[Rat n d] w fun e w' => e = .returned (.int .u64 (n / d)) ∧ ∃ x y : Array Value, (w.alloc (.cells x 53)).alloc (.cells y 53) = w' := by
  obtain ⟨n1, n2⟩ := hn; obtain ⟨d1, d2⟩ := hd
  by_cases h : 0 < d
  · have E : Hid (decide (0 < d) = true) := Lib.hid (by simpa using h)
    go_enter Try.func36, Try.ntmps36
    go_wp2_with fail
    refine (right_any n d _).mono ?_
    rintro e w' ⟨rfl, c, rfl⟩
    rw [E.out]
    go_wp2_with fail
    go_ret
    exact ⟨rfl, _, _, rfl⟩
  · have e0 : d = 0 := by omega
    subst e0
    have E : Hid (decide ((0 : Int) < 0) = false) := Lib.hid (by decide)
    go_enter Try.func36, Try.ntmps36
    go_wp2_with fail
    refine (right_any n 0 _).mono ?_
    rintro e w' ⟨rfl, c, rfl⟩
    rw [E.out]
    go_wp2_with fail
    go_ret
    exact ⟨ret_int (by simp), _, _, rfl⟩

/-- Whether a whole number and a part have room. -/
def Fits (n up down : Int) : Prop := 0 < down ∧ n * down + up ≤ 18446744073709551615

theorem ret_above {a b c d : Int} {x y : Bool} (h1 : a = c) (h2 : b = d) (h3 : x = y) : Ending.returned (.tuple #[Rat a b, .bool x]) = .returned (.tuple #[Rat c d, .bool y]) := by rw [h1, h2, h3]

set_option maxHeartbeats 400000 in
theorem above_yes (n up down : Int) (hn : U64 n) (hu : U64 up) (hd : U64 down) (h : Fits n up down) (w : World) :
    Calls Try.prog 37 #[.int .u64 n, .int .u64 up, .int .u64 down] w fun e w' => e = .returned (.tuple #[Rat (n * down + up) down, .bool true]) ∧ ∃ x : Array Value, w.alloc (.cells x 53) = w' := by
  obtain ⟨h1, h2⟩ := h
  have e := halves n down
  obtain ⟨l1, l2⟩ := mlo_u64 n down
  obtain ⟨m1, m2⟩ := mhi_u64 hn hd
  have u0 := hu.1
  have k1 : mhi n down = 0 := by omega
  have S1 := add_step (x := mlo n down) (y := up) (c := 0) (r := n * down + up) (d := 0) l1 hu.1 (by omega) (by omega) (by omega) (by omega)
  have K := Lib.hid k1
  have z : (down == 0) = false := by simp; omega
  clear e l1 l2 m1 m2 k1 h2
  go_enter Try.func37, Try.ntmps37
  go_wp2_with fail
  refine (mul64_any n down hn hd _).mono ?_
  rintro e w' ⟨rfl, rfl⟩
  rw [K.out]
  go_wp2_with fail
  exact bodyPost_ret (v := .tuple #[Rat (n * down + up) down, .bool true]) (by simp [results, Try.results37, go_sem]) rfl ⟨rfl, _, rfl⟩

set_option maxHeartbeats 400000 in
theorem above_no (n up down : Int) (hn : U64 n) (hu : U64 up) (hd : U64 down) (h : ¬ Fits n up down) (w : World) :
    Calls Try.prog 37 #[.int .u64 n, .int .u64 up, .int .u64 down] w fun e w' => e = .returned (.tuple #[Rat 0 0, .bool false]) ∧ ∃ x : Array Value, w.alloc (.cells x 53) = w' := by
  unfold Fits at h
  obtain ⟨d1, d2⟩ := hd
  by_cases z : down = 0
  · subst z
    go_enter Try.func37, Try.ntmps37
    go_wp2_with fail
    exact bodyPost_ret (v := .tuple #[Rat 0 0, .bool false]) (by simp [results, Try.results37, go_sem]) rfl ⟨rfl, _, rfl⟩
  have e := halves n down
  have hd : U64 down := ⟨d1, d2⟩
  obtain ⟨l1, l2⟩ := mlo_u64 n down
  obtain ⟨m1, m2⟩ := mhi_u64 hn hd
  have z' : (down == 0) = false := by simp; omega
  have u0 := hu.1
  have u1 := hu.2
  by_cases k : 0 < mhi n down
  · obtain ⟨r, hr⟩ : ∃ r, (mlo n down + up + 0) % 18446744073709551616 = r := ⟨_, rfl⟩
    obtain ⟨c, hc⟩ : ∃ c, (mlo n down + up + 0) / 18446744073709551616 = c := ⟨_, rfl⟩
    have S1 := add_step (x := mlo n down) (y := up) (c := 0) (r := r) (d := c) l1 u0 (by omega) (by omega) hr hc
    clear h e l1 l2 hr hc
    go_enter Try.func37, Try.ntmps37
    go_wp2_with fail
    refine (mul64_any n down hn hd _).mono ?_
    rintro e w' ⟨rfl, rfl⟩
    go_wp2_with fail
    exact bodyPost_ret (v := .tuple #[Rat 0 0, .bool false]) (by simp [results, Try.results37, go_sem]) rfl ⟨rfl, _, rfl⟩
  · have k1 : mhi n down = 0 := by omega
    have K := Lib.hid k1
    have S1 := add_step (x := mlo n down) (y := up) (c := 0) (r := mlo n down + up - 18446744073709551616) (d := 1) l1 u0 (by omega) (by omega) (by omega) (by omega)
    clear h e l1 l2 k1 k
    go_enter Try.func37, Try.ntmps37
    go_wp2_with fail
    refine (mul64_any n down hn hd _).mono ?_
    rintro e w' ⟨rfl, rfl⟩
    rw [K.out]
    go_wp2_with fail
    exact bodyPost_ret (v := .tuple #[Rat 0 0, .bool false]) (by simp [results, Try.results37, go_sem]) rfl ⟨rfl, _, rfl⟩

theorem ex_u64 (x : Int) (h : (decide (0 ≤ x) && decide (x ≤ 18446744073709551615)) = true) : U64 x := by simp at h; exact h

/-- Behind a call that makes memory alone all old cells and marks read as before. -/
theorem bcell {W w1 : World} (hb : Below W.heap.size W w1) : (∀ b o, b < W.heap.size → w1.cell? ⟨b, o, none⟩ = W.cell? ⟨b, o, none⟩) ∧ (∀ b o, b < W.heap.size → w1.frozen? ⟨b, o, none⟩ = W.frozen? ⟨b, o, none⟩) :=
  ⟨fun b o h => hb.cell (p := ⟨b, o, none⟩) h, fun b o h => hb.frozen (p := ⟨b, o, none⟩) h⟩
end Go.Proofs.Ytpagleilaaljoaa.R
