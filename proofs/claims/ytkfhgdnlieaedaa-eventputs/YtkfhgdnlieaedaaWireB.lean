/- Contracts of wire.first and wire.Read. -/
import Derived.Test.YtkfhgdnlieaedaaWireA
import Derived.Laws.BitsAllLaws
namespace Go.Proofs.Ytkfhgdnlieaedaa.W
open Go.RowKit

/-- What stands at the beginning of bytes: a number, or 0. -/
def fV (bs : List Nat) : Nat := if fin 0 bs = 0 then 0 else val (bs.take (fin 0 bs))

theorem or_step {bs : List Nat} {i x : Nat} (hx : bs[i]? = some x) (h9 : i ≤ 9) (h1 : i = 9 → x ≤ 1) :
    bits .or .u64 (val (bs.take i) : Int) (IntKind.u64.wrap ((x : Int) % 128 * 2 ^ (7 * i))) = (val (bs.take (i + 1)) : Int) := by
  have hlen : (bs.take i).length = i := by
    have := (List.getElem?_eq_some_iff.1 hx).1
    simp; omega
  have hv := val_lt (bs.take i)
  rw [hlen] at hv
  have p7 : (128 : Nat) ^ i = 2 ^ (7 * i) := by rw [Nat.pow_mul]
  have hb : x % 128 * 2 ^ (7 * i) < 18446744073709551616 := by
    by_cases e : i = 9
    · have := h1 e; subst e
      have : x % 128 ≤ 1 := by omega
      have := Nat.mul_le_mul_right (2 ^ (7 * 9)) this
      omega
    · have h2 : 2 ^ (7 * i) ≤ 2 ^ 56 := Nat.pow_le_pow_right (by omega) (by omega)
      have h3 : x % 128 ≤ 127 := by omega
      have := Nat.mul_le_mul h3 h2
      omega
  have hv2 : val (bs.take i) < 18446744073709551616 := by
    have h2 : 2 ^ (7 * i) ≤ 2 ^ 63 := Nat.pow_le_pow_right (by omega) (by omega)
    rw [p7] at hv
    omega
  have e1 : (x : Int) % 128 * 2 ^ (7 * i) = ((x % 128 * 2 ^ (7 * i) : Nat) : Int) := by simp
  have e2 : IntKind.u64.wrap (((x % 128 * 2 ^ (7 * i) : Nat) : Int)) = ((x % 128 * 2 ^ (7 * i) : Nat) : Int) := by
    rw [IntKind.wrap_u64]; omega
  rw [e1, e2, u64_or_nat _ _ hv2 hb, take_nsnoc hx, val_snoc, hlen, p7]
  have h4 := Nat.shiftLeft_add_eq_or_of_lt (show val (bs.take i) < 2 ^ (7 * i) by omega) (x % 128)
  rw [Nat.shiftLeft_eq] at h4
  rw [Nat.or_comm, ← h4, Nat.add_comm, Nat.mul_comm (x % 128)]

theorem or_nine {bs : List Nat} {x : Nat} (hx : bs[9]? = some x) (h1 : x ≤ 1) :
    bits .or .u64 (val (bs.take 9) : Int) ((x : Int) % 128 * 2 ^ 63) = (val (bs.take (9 + 1)) : Int) := by
  have := or_step hx (by omega) (fun _ => h1)
  rw [← this]; congr 1
  rw [IntKind.wrap_u64]; omega
theorem ret_first {a b c d : Nat} {p q : Int} (h1 : p = (a : Int)) (h2 : q = (b : Int)) (h3 : a = c) (h4 : b = d) : Ending.returned (.tuple #[.int .u64 p, .int .i64 q]) = .returned (.tuple #[.int .u64 (c : Int), .int .i64 (d : Int)]) := by
  rw [h1, h2, h3, h4]
theorem first_no {bs : List Nat} (h : fin 0 bs = 0) : Ending.returned (.tuple #[.int .u64 0, .int .i64 0]) = .returned (.tuple #[.int .u64 (fV bs : Int), .int .i64 (fin 0 bs : Int)]) := by
  unfold fV; rw [if_pos h, h]; rfl
theorem first_yes {bs : List Nat} {i x : Nat} {p : Int} (h : goes bs i) (hx : bs[i]? = some x) (hb : ¬ ((0 < i ∧ x = 0) ∨ (i = 9 ∧ 1 < x))) (hs : x < 128) (hp : p = (val (bs.take (i + 1)) : Int)) :
    Ending.returned (.tuple #[.int .u64 p, .int .i64 ((i : Int) + 1)]) = .returned (.tuple #[.int .u64 (fV bs : Int), .int .i64 (fin 0 bs : Int)]) := by
  have e := fin_end h hx hb hs
  unfold fV; rw [e, if_neg (by omega), hp]; rfl

set_option maxRecDepth 100000 in
set_option maxHeartbeats 800000 in
theorem first_any (A : Option Addr) (k c B : Nat) (bs : List Nat) (w : World) (hk : k = bs.length) (hA : Lies w B A (bs.map bv)) (hb : ∀ x ∈ bs, x < 256) (hl : k ≤ 1000000000) :
    Calls Try.prog 29 #[.slice A k c] w fun e w' => e = .returned (.tuple #[.int .u64 (fV bs : Int), .int .i64 (fin 0 bs : Int)]) ∧ w = w' := by
  have HK := Lib.hid hk
  have HB := Lib.hid hb
  clear hk hb
  go_enter Try.func29, Try.ntmps29
  go_wp2
  go_loop [2, 8] (fun vn vi => ∃ i : Nat, vi = .int .i64 (i : Int) ∧ vn = .int .u64 (val (bs.take i) : Int) ∧ i ≤ k ∧ Hid (goes bs i)) (fun _ vi => k - (intOf vi).toNat)
  case atStart => exact ⟨0, rfl, rfl, by omega, goes_zero _⟩
  case round =>
    obtain ⟨i, rfl, rfl, hik, HGo⟩ := hrel
    have h9 : i ≤ 9 := HGo.out.2.1
    by_cases hlt : i < k
    · have hlt' : i < (bs.map bv).length := by rw [List.length_map, ← HK.out]; exact hlt
      obtain ⟨ad, rfl, _, hc⟩ := hA.at_ hlt'
      obtain ⟨x, hx⟩ : ∃ x, bs[i]? = some x := ⟨_, List.getElem?_eq_getElem (by rw [← HK.out]; exact hlt)⟩
      have hx' : (bs.map bv)[i] = bv x := by
        have := List.getElem?_eq_some_iff.1 hx
        rw [List.getElem_map, this.2]
      rw [hx'] at hc
      have x256 : x < 256 := HB.out x (List.mem_of_getElem? hx)
      have HX := Lib.hid hx
      clear hx hx' hlt'
      go_wp2
      all_goals first
        | (go_ret2; first
            | exact ⟨first_no (fin_bad HGo.out HX.out (by (try simp only [beq_iff_eq] at *); omega)), rfl⟩
            | exact ⟨first_yes HGo.out HX.out (by (try simp only [beq_eq_false_iff_ne] at *); omega) (by omega) (or_step HX.out h9 (by omega)), rfl⟩
            | (obtain rfl : i = 9 := by omega
               exact ⟨first_yes HGo.out HX.out (by (try simp only [beq_eq_false_iff_ne] at *); omega) (by omega) (or_nine HX.out (by omega)), rfl⟩))
        | (go_round
           case rel => exact ⟨i + 1, by go_num, by rw [or_step HX.out h9 (by omega)], by omega, goes_succ HGo.out HX.out (by omega) (by omega)⟩
           case measure => simp [intOf]; omega)
    · go_wp2
      go_ret2
      have e : i = bs.length := by rw [← HK.out]; omega
      exact ⟨first_no (fin_none (by rw [← e]; exact HGo.out)), rfl⟩
end Go.Proofs.Ytkfhgdnlieaedaa.W
