/- The law HeapCheap: its walk. -/
import Derived.Test.YtpagleilaaljoaaHpIK
namespace Go.Proofs.Ytpagleilaaljoaa.W.HI
open Go.RowKit

abbrev F20 (c : Nat) : Value := .func (.func 20) #[.pointer (some ⟨c, 0, none⟩)] #[]
/-- A heap whose order counts, and how often it was asked. -/
def Hc (B : Nat) (w : World) (r c n m : Nat) (A : Int → Option V) : Prop := ∃ X, Ob w r (F20 c) n A X ∧ (∀ j, X j → B ≤ j ∧ j ≠ c) ∧ Cnt c m w ∧ B ≤ c ∧ c < w.heap.size ∧ B ≤ w.heap.size
theorem Hc.below {B : Nat} {w w' : World} {r c n m : Nat} {A : Int → Option V} (h : Hc B w r c n m A) (hb : Below w.heap.size w w') : Hc B w' r c n m A := by
  obtain ⟨X, h1, h2, h3, h4, h5, h6⟩ := h
  have ho : Only w w' (fun _ => False) := Only.of_below hb
  exact ⟨X, h1.kept ho (fun _ _ q => q), h2, ho.blk (fun q => q) h3, h4, by have := hb.size; omega, by have := hb.size; omega⟩
theorem Hc.cnt {B : Nat} {w : World} {r c n m : Nat} {A : Int → Option V} (h : Hc B w r c n m A) : w.cell? ⟨c, 0, none⟩ = some (.int .i64 (m : Int)) := by
  obtain ⟨X, h1, h2, h3, h4, h5, h6⟩ := h; exact cell_of_row _ _ 0 _ _ _ h3
theorem c_set {B : Nat} (w : World) (r c n m : Nat) (A : Int → Option V) (k v : Int) (h : Hc B w r c n m A) (hk : (KL k).wf = true) (hv : (KL v).wf = true) (hn : n < 1073741823) (hm : m < 2305843009213693952) :
    Calls Try.prog 17 #[.pointer (some ⟨r, 0, none⟩), .int .i64 k, .int .i64 v] w fun e w' => ∃ n' a, e = .returned (.tuple #[]) ∧ n' ≤ n + 1 ∧ a ≤ 90 ∧ Hc B w' r c n' (m + a) (updZ A k (some v)) ∧ Below B w w' := by
  obtain ⟨X, h1, h2, h3, h4, h5, h6⟩ := h
  refine (set_any (less20 r c) n A X k v w h1 hk hv hn m hm h3 (fun j q q' => (h2 j q').2 q) (fun j q => by rw [q]; exact h5) _ rfl).mono ?_
  rintro e w' ⟨rfl, X', a, g1, g2, g3, g4, g5⟩
  refine ⟨_, a, rfl, by split <;> omega, g3, ⟨X', g1, fun j q => ?_, g4, h4, by have := g5.size; omega, by have := g5.size; omega⟩, g5.below (fun j q => by rcases q with q | q; exact (h2 j q).1; rw [q]; exact h4) h6⟩
  rcases g2 j q with q | q
  · exact h2 j q
  · exact ⟨by omega, by omega⟩
theorem c_drop {B : Nat} (w : World) (r c n m : Nat) (A : Int → Option V) (k v : Int) (h : Hc B w r c n m A) (hA : A k = some v) (hn : n < 1073741824) (hm : m < 2305843009213693952) :
    Calls Try.prog 15 #[.pointer (some ⟨r, 0, none⟩), .int .i64 k] w fun e w' => ∃ n' a, e = .returned (.bool true) ∧ a ≤ 90 ∧ Hc B w' r c n' (m + a) (updZ A k none) ∧ Below B w w' := by
  obtain ⟨X, h1, h2, h3, h4, h5, h6⟩ := h
  have hpos := h1.pos hA
  refine (drop_some (less20 r c) n A X k v w h1 (h1.okV hA).2 hA hn m hm h3 (fun j q q' => (h2 j q').2 q) (fun j q => by rw [q]; exact h5) (n - 1) (by omega)).mono ?_
  rintro e w' ⟨rfl, X', a, g1, g2, g3, g4, g5⟩
  refine ⟨_, a, rfl, g3, ⟨X', g1, fun j q => ?_, g4, h4, by have := g5.size; omega, by have := g5.size; omega⟩, g5.below (fun j q => by rcases q with q | q; exact (h2 j q).1; rw [q]; exact h4) h6⟩
  rcases g2 j q with q | q
  · exact h2 j q
  · exact ⟨by omega, by omega⟩
theorem c_min {B : Nat} (w : World) (r c n m : Nat) (A : Int → Option V) (k v : Int) (h : Hc B w r c n m A) (hA : A k = some v) (hn : n < 1073741824) :
    Calls Try.prog 16 #[.pointer (some ⟨r, 0, none⟩)] w fun e w' => ∃ x y : Int, e = .returned (.tuple #[.int .i64 x, .int .i64 y, .bool true]) ∧ Below w.heap.size w w' := by
  obtain ⟨X, h1, h2, h3, h4, h5, h6⟩ := h
  refine (min_some r _ n A X w h1 (h1.pos hA) hn).mono ?_
  rintro e w' ⟨x, y, rfl, _, _, g⟩
  exact ⟨x, y, rfl, g⟩
theorem c_get {B : Nat} (w : World) (r c n m : Nat) (A : Int → Option V) (k : Int) (h : Hc B w r c n m A) (hk : (KL k).wf = true) (hn : n < 1073741824) :
    Calls Try.prog 19 #[.pointer (some ⟨r, 0, none⟩), .int .i64 k] w fun e w' => ∃ (x : Int) (b : Bool), e = .returned (.tuple #[.int .i64 x, .bool b]) ∧ w = w' := by
  obtain ⟨X, h1, h2, h3, h4, h5, h6⟩ := h
  cases q : A k with
  | none => exact (get_none r _ n A X w h1 k hk q).mono fun e w' ⟨a, b⟩ => ⟨0, false, a, b⟩
  | some v => exact (get_some r _ n A X w h1 k hk v q hn).mono fun e w' ⟨a, b⟩ => ⟨v, true, a, b⟩

set_option maxRecDepth 100000 in
set_option maxHeartbeats 1600000 in
theorem cheap_walk (x0 x1 x2 : Int) (hx1 : (KL x1).wf = true) (hx2 : (KL x2).wf = true) (w : World) :
    Calls Try.prog 5 #[.int .i64 x0, .int .i64 x1, .int .i64 x2] w fun e w' => e = .returned (.bool true) ∧ Below w.heap.size w w' := by
  obtain ⟨k, hk, hk1⟩ := and_nat x0 4095 12 4096 (by decide) (by decide) (by decide)
  obtain ⟨q, hq, hq1⟩ := and_nat x1 4095 12 4096 (by decide) (by decide) (by decide)
  have hki : (k : Int) < 4096 := by omega
  have HQ := Lib.hid hq
  clear hq
  go_enter Try.func5, Try.ntmps5
  go_wp2_with fail
  refine (head8 _).mono ?_
  rintro e w1 ⟨rfl, b1⟩
  go_wp2_with fail
  clear hk
  refine (new_any _ _ _ _).mono ?_
  rintro e w2 ⟨rfl, h2, b2⟩
  have hnew := heap_alloc_new w1 (.cells #[.int .i64 0] 42)
  have hlt := lt_of_row hnew
  have b4 : Below w.heap.size w w2 := b1.trans (((Below.refl w1.heap.size w1).alloc (Nat.le_refl _) _).trans (b2.mono (Nat.le_of_lt hlt)) |>.mono b1.size)
  have h4 : Hc w.heap.size w2 (w1.alloc (.cells #[.int .i64 0] 42)).heap.size w1.heap.size 0 0 (fun _ => none) :=
    ⟨_, h2, fun j q => ⟨by rw [q]; have := b1.size; omega, by rw [q]; omega⟩, by unfold Cnt; rw [b2.block _ hlt]; exact hnew, b1.size, by have := b2.size; omega, b4.size⟩
  obtain ⟨c, hc⟩ : ∃ c, w1.heap.size = c := ⟨_, rfl⟩
  obtain ⟨r, hr⟩ : ∃ r, (w1.alloc (.cells #[.int .i64 0] 42)).heap.size = r := ⟨_, rfl⟩
  rw [hr, hc] at h4
  rw [hr, hc]
  clear h2 b2 hnew hlt b1 hr hc
  go_wp2_with fail
  go_loopg [9] k (fun gk vi wr => ∃ (i n m : Nat) (A : Int → Option Int), vi = .int .i64 (i : Int) ∧ i + gk = k ∧ Hc w.heap.size wr r c n m A ∧ n ≤ i ∧ m ≤ 90 * i ∧ Below w.heap.size w wr)
  case atStart => exact ⟨0, 0, 0, _, rfl, by omega, h4, by omega, by omega, b4⟩
  case round =>
    clear h4 b4
    obtain ⟨i, n, m, A, rfl, hik, hz, hni, hmi, bz⟩ := hrel
    have HIK := Lib.hid hik
    have hcell := hz.cnt
    by_cases hi : i < k
    · obtain ⟨y, hy, hy1⟩ := and_nat ((i : Int) * 7919) 65535 16 65536 (by decide) (by decide) (by decide)
      have hii : (i : Int) < (k : Int) := by omega
      have hmI : (m : Int) ≤ 400000 := by omega
      clear hik
      go_wp2_with fail
      refine (c_set _ r c n m A (i : Int) (y : Int) hz (wfN i (by omega)) (wfN y (by omega)) (by omega) (by omega)).mono ?_
      rintro e w4 ⟨n', a, rfl, hn', ha, h4, b4⟩
      have b5 := bz.trans b4
      clear hcell hy
      have hcell := h4.cnt
      obtain ⟨m', hm'⟩ : ∃ m', m' = m + a := ⟨_, rfl⟩
      rw [← hm'] at h4 hcell
      have hd : decide ((m : Int) + 100 < (m' : Int)) = false := by simp; omega
      have HM' := Lib.hid hm'
      clear hm'
      go_wp2_with fail
      go_roundg (gk - 1)
      case measure => have := HIK.out; omega
      case rel => exact ⟨i + 1, n', m', _, by go_num, by have := HIK.out; omega, h4, by omega, by have := HM'.out; omega, b5⟩
    · obtain rfl : i = k := by omega
      clear hik HIK hi
      have hmI : (m : Int) ≤ 400000 := by omega
      have hq := HQ.out
      go_wp2_with fail
      clear hq
      refine (c_set _ r c n m A (q : Int) x2 hz (wfN q (by omega)) hx2 (by omega) (by omega)).mono ?_
      rintro e w4 ⟨n', a, rfl, hn', ha, h4, b4⟩
      have b5 := bz.trans b4
      clear hcell
      have hcell := h4.cnt
      obtain ⟨m', hm'⟩ : ∃ m', m' = m + a := ⟨_, rfl⟩
      rw [← hm'] at h4 hcell
      have hd : decide ((m : Int) + 100 < (m' : Int)) = false := by simp; omega
      have hm'I : (m' : Int) ≤ 500000 := by omega
      have HM' := Lib.hid hm'
      have hm'9 : m' < 2305843009213693952 := by omega
      clear hm'
      go_wp2_with fail
      refine (c_get _ r c n' m' _ x1 h4 hx1 (by omega)).mono ?_
      rintro e w5 ⟨gx, gb, rfl, rfl⟩
      go_wp2_with fail
      refine (c_min _ r c n' m' _ (q : Int) x2 h4 (updZ_same _ _ _) (by omega)).mono ?_
      rintro e w5 ⟨mx, my, rfl, b6⟩
      have h5 := h4.below b6
      have b7 := b5.trans (b6.mono b5.size)
      clear hcell
      have hcell := h5.cnt
      have hq := HQ.out
      go_wp2_with fail
      clear hq
      refine (c_drop _ r c n' m' _ (q : Int) x2 h5 (updZ_same _ _ _) (by omega) (by omega)).mono ?_
      rintro e w6 ⟨n2, a2, rfl, ha2, h6, b8⟩
      clear hcell
      have hcell := h6.cnt
      obtain ⟨m2, hm2⟩ : ∃ m2, m2 = m' + a2 := ⟨_, rfl⟩
      rw [← hm2] at hcell
      have hd2 : decide ((m2 : Int) ≤ (m' : Int) + 100) = true := by simp; omega
      have HM2 := Lib.hid hm2
      clear hm2 hd
      go_wp2_with fail
      go_ret
      exact ⟨rfl, b7.trans b8⟩
end Go.Proofs.Ytpagleilaaljoaa.W.HI
