/- The law BoxDeads. -/
import Derived.Test.YthmmobhbakmbpaaBoxB
import Derived.Deep.LoopGhost
namespace Go.Proofs.Ythmmobhbakmbpaa.W
open Go.RowKit

/-- A pointer that lies in a block of its own. -/
def Vr (w : World) (v b : Nat) : Prop := w.heap[v]? = some (.cells [Value.pointer (some ⟨b, 0, none⟩)].toArray 25 (0, 0))
theorem Vr.off {w w' : World} {v b q : Nat} (h : Vr w v b) (hb : w.grownBy w' (some q)) (hr : v ≠ q) : Vr w' v b := by unfold Vr; rw [hb.block v (lt_of_row h) (by simpa using hr)]; exact h

set_option maxRecDepth 100000 in
set_option maxHeartbeats 3200000 in
theorem do_any (v b k : Nat) (c : Bo) (x y now : Int) (w : World) (hv : Vr w v b) (hr : Bx w b c) (hy : bits .and .i64 x 3 = y) (hs : Stp k y) :
    Calls Try.prog 18 #[.int .i64 x, .int .i64 now, .pointer (some ⟨v, 0, none⟩)] w fun e w' => e = .returned (.bool (nx k c now).2) ∧ Bx w' b (nx k c now).1 ∧ w.grownBy w' (some b) := by
  have c0 : w.cell? ⟨v, 0, none⟩ = some (.pointer (some ⟨b, 0, none⟩)) := cellL hv 0 _ rfl
  obtain ⟨r, hr2⟩ : ∃ r, (nx k c now).2 = r := ⟨_, rfl⟩
  rw [hr2]
  have HR := Lib.hid hr2
  clear hr2
  rcases hs with ⟨rfl, rfl⟩ | ⟨rfl, rfl⟩ | ⟨rfl, rfl⟩ | ⟨rfl, rfl⟩
  · go_enter Try.func18, Try.ntmps18
    go_wp2_with fail
    refine (bx_call b c now _ hr).mono ?_
    rintro e w3 ⟨rfl, h3, g3⟩
    rw [HR.out]
    clear hr c0 hv HR
    go_wp2_with fail
    go_ret
    exact ⟨rfl, h3, g3⟩
  · go_enter Try.func18, Try.ntmps18
    go_wp2_with fail
    refine (bx_booted b c now _ hr).mono ?_
    rintro e w3 ⟨rfl, h3, g3⟩
    rw [HR.out]
    clear hr c0 hv HR
    go_wp2_with fail
    go_ret
    exact ⟨rfl, h3, g3⟩
  · go_enter Try.func18, Try.ntmps18
    go_wp2_with fail
    refine (bx_done b c now _ hr).mono ?_
    rintro e w3 ⟨rfl, h3, g3⟩
    rw [HR.out]
    clear hr c0 hv HR
    go_wp2_with fail
    go_ret
    exact ⟨rfl, h3, g3⟩
  · go_enter Try.func18, Try.ntmps18
    go_wp2_with fail
    refine (bx_kill b c now _ hr).mono ?_
    rintro e w3 ⟨rfl, h3, g3⟩
    rw [HR.out]
    clear hr c0 hv HR
    go_wp2_with fail
    go_ret
    exact ⟨rfl, h3, g3⟩

set_option maxRecDepth 100000 in
theorem call_dead (b : Nat) (i f h m : Int) (p : Bool) (t now : Int) (w : World) (hr : Bx w b ⟨i, f, h, m, .dead, p, t⟩) :
    Calls Try.prog 12 #[.pointer (some ⟨b, 0, none⟩), .int .i64 now] w fun e w' => e = .returned (.bool false) ∧ w = w' := by
  have h4 : w.cell? ⟨b, 4, none⟩ = some (.int .i64 3) := cellL hr 4 _ rfl
  clear hr
  go_enter Try.func12, Try.ntmps12
  go_wp2
  go_ret
  exact ⟨rfl, rfl⟩

set_option maxRecDepth 100000 in
theorem booted_dead (b : Nat) (i f h m : Int) (p : Bool) (t now : Int) (w : World) (hr : Bx w b ⟨i, f, h, m, .dead, p, t⟩) :
    Calls Try.prog 13 #[.pointer (some ⟨b, 0, none⟩), .int .i64 now] w fun e w' => e = .returned (.bool false) ∧ w = w' := by
  have h4 : w.cell? ⟨b, 4, none⟩ = some (.int .i64 3) := cellL hr 4 _ rfl
  clear hr
  go_enter Try.func13, Try.ntmps13
  go_wp2
  go_ret
  exact ⟨rfl, rfl⟩

set_option maxRecDepth 100000 in
theorem done_dead (b : Nat) (i f h m : Int) (p : Bool) (t now : Int) (w : World) (hr : Bx w b ⟨i, f, h, m, .dead, p, t⟩) :
    Calls Try.prog 14 #[.pointer (some ⟨b, 0, none⟩), .int .i64 now] w fun e w' => e = .returned (.bool false) ∧ w = w' := by
  have h4 : w.cell? ⟨b, 4, none⟩ = some (.int .i64 3) := cellL hr 4 _ rfl
  clear hr
  go_enter Try.func14, Try.ntmps14
  go_wp2
  go_ret
  exact ⟨rfl, rfl⟩

set_option maxRecDepth 100000 in
theorem kill_dead (b : Nat) (i f h m : Int) (p : Bool) (t now : Int) (w : World) (hr : Bx w b ⟨i, f, h, m, .dead, p, t⟩) :
    Calls Try.prog 15 #[.pointer (some ⟨b, 0, none⟩), .int .i64 now] w fun e w' => e = .returned (.bool false) ∧ w = w' := by
  have h4 : w.cell? ⟨b, 4, none⟩ = some (.int .i64 3) := cellL hr 4 _ rfl
  clear hr
  go_enter Try.func15, Try.ntmps15
  go_wp2
  go_ret
  exact ⟨rfl, rfl⟩

set_option maxRecDepth 100000 in
theorem do_dead (v b k : Nat) (i f h m : Int) (p : Bool) (t x y now : Int) (w : World) (hv : Vr w v b) (hr : Bx w b ⟨i, f, h, m, .dead, p, t⟩) (hy : bits .and .i64 x 3 = y) (hs : Stp k y) :
    Calls Try.prog 18 #[.int .i64 x, .int .i64 now, .pointer (some ⟨v, 0, none⟩)] w fun e w' => e = .returned (.bool false) ∧ w = w' := by
  have c0 : w.cell? ⟨v, 0, none⟩ = some (.pointer (some ⟨b, 0, none⟩)) := cellL hv 0 _ rfl
  rcases hs with ⟨rfl, rfl⟩ | ⟨rfl, rfl⟩ | ⟨rfl, rfl⟩ | ⟨rfl, rfl⟩
  · go_enter Try.func18, Try.ntmps18
    go_wp2_with fail
    refine (call_dead b i f h m p t now _ hr).mono ?_
    rintro e w3 ⟨rfl, rfl⟩
    go_wp2_with fail
    go_ret
    exact ⟨rfl, rfl⟩
  · go_enter Try.func18, Try.ntmps18
    go_wp2_with fail
    refine (booted_dead b i f h m p t now _ hr).mono ?_
    rintro e w3 ⟨rfl, rfl⟩
    go_wp2_with fail
    go_ret
    exact ⟨rfl, rfl⟩
  · go_enter Try.func18, Try.ntmps18
    go_wp2_with fail
    refine (done_dead b i f h m p t now _ hr).mono ?_
    rintro e w3 ⟨rfl, rfl⟩
    go_wp2_with fail
    go_ret
    exact ⟨rfl, rfl⟩
  · go_enter Try.func18, Try.ntmps18
    go_wp2_with fail
    refine (kill_dead b i f h m p t now _ hr).mono ?_
    rintro e w3 ⟨rfl, rfl⟩
    go_wp2_with fail
    go_ret
    exact ⟨rfl, rfl⟩

theorem nx_dead (k : Nat) (i f h m : Int) (p : Bool) (t now : Int) (x : Int) (hs : Stp k x) : nx k ⟨i, f, h, m, .dead, p, t⟩ now = (⟨i, f, h, m, .dead, p, t⟩, false) := by
  rcases hs with ⟨rfl, rfl⟩ | ⟨rfl, rfl⟩ | ⟨rfl, rfl⟩ | ⟨rfl, rfl⟩ <;> rfl
theorem nx_same (k : Nat) (c : Bo) (now : Int) (x : Int) (hs : Stp k x) : (nx k c now).1.id = c.id ∧ (nx k c now).1.fn = c.fn ∧ (nx k c now).1.ho = c.ho ∧ (nx k c now).1.me = c.me := by
  obtain ⟨i, f, h, m, q, p, t⟩ := c
  rcases hs with ⟨rfl, rfl⟩ | ⟨rfl, rfl⟩ | ⟨rfl, rfl⟩ | ⟨rfl, rfl⟩ <;> cases q <;> exact ⟨rfl, rfl, rfl, rfl⟩
theorem nx_kill (c : Bo) (now : Int) : ∃ p t, (nx 3 c now).1 = ⟨c.id, c.fn, c.ho, c.me, .dead, p, t⟩ := by
  obtain ⟨i, f, h, m, q, p, t⟩ := c
  cases q <;> exact ⟨_, _, rfl⟩

set_option maxRecDepth 100000 in
set_option maxHeartbeats 6400000 in
theorem deads_walk (a0 a1 : Option Addr) (k k' cap cap' : Nat) (xs ys : List Int) (hl : xs.length = k) (_hc : k ≤ cap) (hl' : ys.length = k') (_hc' : k' ≤ cap') (w : World) (L : Lies w w.heap.size a0 (ints xs)) (L' : Lies w w.heap.size a1 (ints ys)) :
    Calls Try.prog 5 #[.slice a0 k cap, .slice a1 k' cap'] w fun e w' => e = .returned (.bool true) ∧ Below w.heap.size w w' := by
  have HL := Lib.hid hl
  have HL' := Lib.hid hl'
  clear hl hl'
  by_cases hk : 60 < k
  · have hki : decide ((60 : Int) < (k : Int)) = true := by simp; omega
    go_enter Try.func5, Try.ntmps5
    go_wp2_with fail
    refine (head12 _).mono ?_
    rintro e w1 ⟨rfl, b1⟩
    go_wp2_with fail
    go_ret
    exact ⟨rfl, b1⟩
  have hki : decide ((60 : Int) < (k : Int)) = false := by simp; omega
  by_cases hk' : 60 < k'
  · have hki' : decide ((60 : Int) < (k' : Int)) = true := by simp; omega
    go_enter Try.func5, Try.ntmps5
    go_wp2_with fail
    refine (head12 _).mono ?_
    rintro e w1 ⟨rfl, b1⟩
    go_wp2_with fail
    go_ret
    exact ⟨rfl, b1⟩
  have hki' : decide ((60 : Int) < (k' : Int)) = false := by simp; omega
  have hkk := Lib.hid (show k ≤ 60 by omega)
  have hkk' := Lib.hid (show k' ≤ 60 by omega)
  clear hk hk'
  go_enter Try.func5, Try.ntmps5
  go_wp2_with fail
  refine (head12 _).mono ?_
  rintro e w1 ⟨rfl, b1⟩
  go_wp2_with fail
  refine (bx_new 7 1 2 3 0 w1).mono ?_
  rintro e w2 ⟨rfl, h2, b2⟩
  obtain ⟨b, hb⟩ : ∃ b, w1.heap.size = b := ⟨_, rfl⟩
  have bb2 := b1.trans (b2.mono b1.size)
  have hlb : w.heap.size ≤ b := by rw [← hb]; exact b1.size
  rw [hb] at h2
  rw [hb]
  clear hb b1 b2
  go_wp2_with fail
  clear hki hki'
  go_loopg [26] k (fun gk vi wr => ∃ (i : Nat) (c : Bo), vi = .int .i64 (i : Int) ∧ i + gk = k ∧ c.id = 7 ∧ c.fn = 1 ∧ c.ho = 2 ∧ c.me = 3 ∧ Bx wr b c ∧ Vr wr w2.heap.size b ∧ Below w.heap.size w wr)
  case atStart =>
    refine ⟨0, _, rfl, by omega, rfl, rfl, rfl, rfl, h2.keep ((Below.refl _ _).alloc (Nat.le_refl _) _) h2.lt, heap_alloc_new _ _, bb2.alloc bb2.size _⟩
  case round =>
    have hvb : w2.heap.size ≠ b := by have := h2.lt; omega
    generalize w2.heap.size = v at *
    clear h2 bb2
    obtain ⟨i, c, rfl, hik, k1, k2, k3, k4, hz, hv, bz⟩ := hrel
    have HIK := Lib.hid hik
    by_cases hi : i < k
    · obtain ⟨ad, x, hA, hadb, hx, hcell⟩ := (L.below bz (Nat.le_refl _)).int (i := i) (by rw [HL.out]; exact hi)
      subst hA
      have hi2 : (i : Int) < 60 := by have := hkk.out; omega
      obtain ⟨s, y, hy, hs⟩ := stp_of x
      have HX := Lib.hid hx
      obtain ⟨e1, e2, e3, e4⟩ := nx_same s c (i : Int) y hs
      rw [k1] at e1
      rw [k2] at e2
      rw [k3] at e3
      rw [k4] at e4
      have E := Lib.hid (And.intro e1 (And.intro e2 (And.intro e3 e4)))
      clear hx hik k1 k2 k3 k4 e1 e2 e3 e4
      go_wp2_with fail
      refine (do_any v b s c x y (i : Int) _ hv hz hy hs).mono ?_
      rintro e w3 ⟨rfl, h3, g3⟩
      have b3 := below_row bz hlb g3 bz.size
      have hv3 := hv.off g3 hvb
      clear hcell hz bz hv
      go_wp2_with fail
      go_roundg (gk - 1)
      case measure => have := HIK.out; omega
      case rel => exact ⟨i + 1, _, by go_num, by have := HIK.out; omega, E.out.1, E.out.2.1, E.out.2.2.1, E.out.2.2.2, h3, hv3, b3⟩
    · obtain rfl : i = k := by omega
      obtain ⟨p, t, hD⟩ := nx_kill c 100
      rw [k1, k2, k3, k4] at hD
      have HD := Lib.hid hD
      have c0 : wr.cell? ⟨v, 0, none⟩ = some (.pointer (some ⟨b, 0, none⟩)) := cellL hv 0 _ rfl
      clear hik hi hD k1 k2 k3 k4
      go_wp2_with fail
      refine (bx_kill b c 100 _ hz).mono ?_
      rintro e w3 ⟨rfl, h3, g3⟩
      have b3 := below_row bz hlb g3 bz.size
      have hv3 := hv.off g3 hvb
      rw [HD.out] at h3
      generalize (nx 3 c 100).2 = r
      clear hz bz hv c0 g3 HD
      have c0 : w3.cell? ⟨v, 0, none⟩ = some (.pointer (some ⟨b, 0, none⟩)) := cellL hv3 0 _ rfl
      have d0 : w3.cell? ⟨b, 0, none⟩ = some (.int .i64 7) := cellL h3 0 _ rfl
      have d1 : w3.cell? ⟨b, 1, none⟩ = some (.int .i64 1) := cellL h3 1 _ rfl
      have d2 : w3.cell? ⟨b, 2, none⟩ = some (.int .i64 2) := cellL h3 2 _ rfl
      have d3 : w3.cell? ⟨b, 3, none⟩ = some (.int .i64 3) := cellL h3 3 _ rfl
      have d4 : w3.cell? ⟨b, 4, none⟩ = some (.int .i64 3) := cellL h3 4 _ rfl
      have d5 : w3.cell? ⟨b, 5, none⟩ = some (.bool false) := cellL h3 5 _ rfl
      have d6 : w3.cell? ⟨b, 6, none⟩ = some (.bool p) := cellL h3 6 _ rfl
      have d7 : w3.cell? ⟨b, 7, none⟩ = some (.int .i64 t) := cellL h3 7 _ rfl
      go_wp2_with fail
      clear c0 d0 d1 d2 d3 d4 d5 d6 d7
      go_loopg [43] k' (fun gk vi wr => ∃ (i : Nat), vi = .int .i64 (i : Int) ∧ i + gk = k' ∧ Bx wr b ⟨7, 1, 2, 3, .dead, p, t⟩ ∧ Bx wr w3.heap.size ⟨7, 1, 2, 3, .dead, p, t⟩ ∧ Vr wr v b ∧ Below w.heap.size w wr)
      case atStart =>
        have bn : Below w3.heap.size w3 (w3.alloc (.cells #[Value.int .i64 7, .int .i64 1, .int .i64 2, .int .i64 3, .int .i64 3, .bool false, .bool p, .int .i64 t] 29)) := (Below.refl _ _).alloc (Nat.le_refl _) _
        refine ⟨0, rfl, by omega, h3.keep bn h3.lt, heap_alloc_new _ _, ?_, b3.alloc b3.size _⟩
        unfold Vr; rw [bn.block v (lt_of_row hv3)]; exact hv3
      case round =>
        generalize w3.heap.size = u at *
        clear h3 b3 hv3
        obtain ⟨j, rfl, hjk, hz, hu, hv, bz⟩ := hrel
        have HJK := Lib.hid hjk
        have c0 : wr.cell? ⟨v, 0, none⟩ = some (.pointer (some ⟨b, 0, none⟩)) := cellL hv 0 _ rfl
        have d0 : wr.cell? ⟨b, 0, none⟩ = some (.int .i64 7) := cellL hz 0 _ rfl
        have d1 : wr.cell? ⟨b, 1, none⟩ = some (.int .i64 1) := cellL hz 1 _ rfl
        have d2 : wr.cell? ⟨b, 2, none⟩ = some (.int .i64 2) := cellL hz 2 _ rfl
        have d3 : wr.cell? ⟨b, 3, none⟩ = some (.int .i64 3) := cellL hz 3 _ rfl
        have d4 : wr.cell? ⟨b, 4, none⟩ = some (.int .i64 3) := cellL hz 4 _ rfl
        have d5 : wr.cell? ⟨b, 5, none⟩ = some (.bool false) := cellL hz 5 _ rfl
        have d6 : wr.cell? ⟨b, 6, none⟩ = some (.bool p) := cellL hz 6 _ rfl
        have d7 : wr.cell? ⟨b, 7, none⟩ = some (.int .i64 t) := cellL hz 7 _ rfl
        by_cases hj : j < k'
        · obtain ⟨ad, x, hA, hadb, hx, hcell⟩ := (L'.below bz (Nat.le_refl _)).int (i := j) (by rw [HL'.out]; exact hj)
          subst hA
          have hj2 : (j : Int) < 60 := by have := hkk'.out; omega
          obtain ⟨s, y, hy, hs⟩ := stp_of x
          have HX := Lib.hid hx
          have f0 : wr.cell? ⟨u, 0, none⟩ = some (.int .i64 7) := cellL hu 0 _ rfl
          have f1 : wr.cell? ⟨u, 1, none⟩ = some (.int .i64 1) := cellL hu 1 _ rfl
          have f2 : wr.cell? ⟨u, 2, none⟩ = some (.int .i64 2) := cellL hu 2 _ rfl
          have f3 : wr.cell? ⟨u, 3, none⟩ = some (.int .i64 3) := cellL hu 3 _ rfl
          have f4 : wr.cell? ⟨u, 4, none⟩ = some (.int .i64 3) := cellL hu 4 _ rfl
          have f5 : wr.cell? ⟨u, 5, none⟩ = some (.bool false) := cellL hu 5 _ rfl
          have f6 : wr.cell? ⟨u, 6, none⟩ = some (.bool p) := cellL hu 6 _ rfl
          have f7 : wr.cell? ⟨u, 7, none⟩ = some (.int .i64 t) := cellL hu 7 _ rfl
          have HQ := Lib.hid (fun n => do_dead v b s 7 1 2 3 p t x y (200 + (j : Int)) (wr.drewN n) hv hz hy hs)
          clear hx hjk hy
          go_wp2_with fail
          go_quiet ((go_at_call 18; exact Calls.quiet_of_same (quiet_eq (HQ.out _))))
          go_wp2_with fail
          go_roundg (gk - 1)
          case measure => have := HJK.out; omega
          case rel => exact ⟨j + 1, by go_num, by have := HJK.out; omega, hz, hu, hv, below_drewN bz _⟩
        · obtain rfl : j = k' := by omega
          clear hjk hj
          go_wp2_with fail
          refine (bx_runs b _ _ hz).mono ?_
          rintro e w4 ⟨rfl, rfl⟩
          simp only [Ph.runs]
          go_wp2_with fail
          refine (bx_idle b _ _ hz).mono ?_
          rintro e w4 ⟨rfl, rfl⟩
          simp only [Ph.idle]
          go_wp2_with fail
          go_ret
          exact ⟨rfl, bz⟩

end Go.Proofs.Ythmmobhbakmbpaa.W
