/- Contracts of package box: a Box in memory; New, Runs, Idle, Call, Booted, Done, Kill. -/
import Derived.Test.YthmmobhbakmbpaaRows
import Derived.Test.YthmmobhbakmbpaaPrt
namespace Go.Proofs.Ythmmobhbakmbpaa.W
open Go.RowKit

/-- What a sandbox does; a booting one: whether a call waits for its boot. -/
inductive Ph where
  | boot
  | bound
  | warm
  | busy
  | dead
def Ph.st : Ph → Int
  | .boot => 0
  | .bound => 0
  | .warm => 1
  | .busy => 2
  | .dead => 3
def Ph.bd : Ph → Bool
  | .bound => true
  | _ => false
def Ph.runs : Ph → Bool
  | .bound => true
  | .busy => true
  | _ => false
def Ph.idle : Ph → Bool
  | .warm => true
  | _ => false

/-- A sandbox, as calls leave it. -/
structure Bo where
  id : Int
  fn : Int
  ho : Int
  me : Int
  q : Ph
  p : Bool
  t : Int

/-- What a sandbox is behind a step, and whether it was done: 0 Call, 1 Booted, 2 Done, 3 Kill. -/
def nx (k : Nat) (c : Bo) (now : Int) : Bo × Bool :=
  match k, c.q with
  | 0, .warm => ({ c with q := .busy, t := now }, true)
  | 0, .boot => ({ c with q := .bound }, true)
  | 1, .boot => ({ c with q := .warm, t := now }, true)
  | 1, .bound => ({ c with q := .busy, t := now }, true)
  | 2, .busy => ({ c with q := .warm, t := now }, true)
  | 3, .dead => (c, false)
  | 3, _ => ({ c with q := .dead, p := false, t := now }, true)
  | _, _ => (c, false)

abbrev bcs (i f h m s : Int) (bd p : Bool) (t : Int) : List Value := [.int .i64 i, .int .i64 f, .int .i64 h, .int .i64 m, .int .i64 s, .bool bd, .bool p, .int .i64 t]
def brow (c : Bo) : List Value := bcs c.id c.fn c.ho c.me c.q.st c.q.bd c.p c.t
/-- Cells of a Box, in a block. -/
def Br (w : World) (b : Nat) (i f h m s : Int) (bd p : Bool) (t : Int) : Prop := w.heap[b]? = some (.cells (bcs i f h m s bd p t).toArray 29 (0, 0))
/-- A Box's block. -/
def Bx (w : World) (b : Nat) (c : Bo) : Prop := w.heap[b]? = some (.cells (brow c).toArray 29 (0, 0))
theorem Bx.lt {w : World} {b : Nat} {c : Bo} (h : Bx w b c) : b < w.heap.size := lt_of_row h
theorem Bx.keep {w w' : World} {b B : Nat} {c : Bo} (h : Bx w b c) (hb : Below B w w') (hr : b < B) : Bx w' b c := by unfold Bx; rw [hb.block b hr]; exact h
theorem Bx.off {w w' : World} {b q : Nat} {c : Bo} (h : Bx w b c) (hb : w.grownBy w' (some q)) (hr : b ≠ q) : Bx w' b c := by unfold Bx; rw [hb.block b h.lt (by simpa using hr)]; exact h
theorem Bx.drewN {w : World} {b : Nat} {c : Bo} (h : Bx w b c) (n : Nat) : Bx (w.drewN n) b c := h
theorem sizeBox : (Try.prog.info? 29).map (·.size) = some 8 := by kernel_rfl

set_option maxRecDepth 100000 in
set_option maxHeartbeats 800000 in
theorem bx_turn (b : Nat) (i f h m s : Int) (bd p : Bool) (t s' now : Int) (w : World) (hr : Br w b i f h m s bd p t) :
    Calls Try.prog 30 #[.pointer (some ⟨b, 0, none⟩), .int .i64 s', .int .i64 now] w fun e w' => e = .returned (.tuple #[]) ∧ Br w' b i f h m s' bd p now ∧ w.grownBy w' (some b) := by
  have hg : Hid (w.heap[b]? = some (.cells (bcs i f h m s bd p t).toArray 29 (0, 0))) := Lib.hid hr
  clear hr
  go_enter Try.func30, Try.ntmps30
  go_wp2_with (first
    | (with_reducible refine wpList_store_in rfl 27 (.tmp 11) (.tmp 8) rfl (by kernel_rfl) b 4 rfl .i64 s' rfl _ _ hg.out (by simp) ?_; intro w2 HG2 hg2)
    | (with_reducible refine wpList_store_in rfl 2 (.tmp 13) (.tmp 9) rfl (by kernel_rfl) b 7 rfl .i64 now rfl _ _ HG2.out (by simp) ?_; intro w3 HG3 hg3))
  go_end0
  exact ⟨rfl, HG3.out, grown_trans hg2 hg3⟩

set_option maxRecDepth 100000 in
set_option maxHeartbeats 800000 in
theorem bx_new (i f h m t : Int) (w : World) :
    Calls Try.prog 10 #[.int .i64 i, .int .i64 f, .int .i64 h, .int .i64 m, .int .i64 t] w fun e w' => e = .returned (.pointer (some ⟨w.heap.size, 0, none⟩)) ∧ Bx w' w.heap.size ⟨i, f, h, m, .boot, false, t⟩ ∧ Below w.heap.size w w' := by
  go_enter Try.func10, Try.ntmps10
  go_wp2
  go_ret
  exact ⟨rfl, heap_alloc_new _ _, (Below.refl _ _).alloc (Nat.le_refl _) _⟩

set_option maxRecDepth 100000 in
set_option maxHeartbeats 800000 in
theorem bx_runs (b : Nat) (c : Bo) (w : World) (hr : Bx w b c) :
    Calls Try.prog 16 #[.pointer (some ⟨b, 0, none⟩)] w fun e w' => e = .returned (.bool c.q.runs) ∧ w = w' := by
  obtain ⟨i, f, h, m, q, p, t⟩ := c
  cases q <;>
  · have h4 := cellL hr 4 _ rfl
    have h5 := cellL hr 5 _ rfl
    simp only [Ph.st, Ph.bd] at h4 h5
    clear hr
    go_enter Try.func16, Try.ntmps16
    go_wp2
    go_ret
    exact ⟨rfl, rfl⟩

set_option maxRecDepth 100000 in
set_option maxHeartbeats 800000 in
theorem bx_idle (b : Nat) (c : Bo) (w : World) (hr : Bx w b c) :
    Calls Try.prog 17 #[.pointer (some ⟨b, 0, none⟩)] w fun e w' => e = .returned (.bool c.q.idle) ∧ w = w' := by
  obtain ⟨i, f, h, m, q, p, t⟩ := c
  cases q <;>
  · have h4 := cellL hr 4 _ rfl
    simp only [Ph.st] at h4
    clear hr
    go_enter Try.func17, Try.ntmps17
    go_wp2
    go_ret
    exact ⟨rfl, rfl⟩

set_option maxRecDepth 100000 in
set_option maxHeartbeats 1600000 in
theorem bx_call (b : Nat) (c : Bo) (now : Int) (w : World) (hr : Bx w b c) :
    Calls Try.prog 12 #[.pointer (some ⟨b, 0, none⟩), .int .i64 now] w fun e w' => e = .returned (.bool (nx 0 c now).2) ∧ Bx w' b (nx 0 c now).1 ∧ w.grownBy w' (some b) := by
  obtain ⟨i, f, h, m, q, p, t⟩ := c
  have hg := Lib.hid hr
  have h4 := cellL hr 4 _ rfl
  have h5 := cellL hr 5 _ rfl
  simp only [] at h4 h5
  clear hr
  cases q with
  | boot =>
    simp only [Ph.st, Ph.bd] at h4 h5
    have hg1 : Hid (w.heap[b]? = some (.cells (bcs i f h m 0 false p t).toArray 29 (0, 0))) := Lib.hid hg.out
    go_enter Try.func12, Try.ntmps12
    go_wp2_with (with_reducible refine wpList_store_boolin rfl 4 (.tmp 29) (.const (.bool true)) rfl (by kernel_rfl) b 5 rfl true rfl _ _ hg1.out (by simp) ?_; intro w2 HG2 hg2)
    go_ret
    exact ⟨rfl, HG2.out, hg2⟩
  | bound =>
    simp only [Ph.st, Ph.bd] at h4 h5
    go_enter Try.func12, Try.ntmps12
    go_wp2
    go_ret
    exact ⟨rfl, hg.out, World.grownBy.refl _ _⟩
  | warm =>
    simp only [Ph.st, Ph.bd] at h4 h5
    go_enter Try.func12, Try.ntmps12
    go_wp2_with fail
    refine (bx_turn b i f h m 1 false p t 2 now w hg.out).mono ?_
    rintro e w2 ⟨rfl, h2, hg2⟩
    have HG2 := Lib.hid h2
    clear h4 h5 h2
    go_wp2
    go_ret
    exact ⟨rfl, HG2.out, hg2⟩
  | busy =>
    simp only [Ph.st, Ph.bd] at h4 h5
    go_enter Try.func12, Try.ntmps12
    go_wp2
    go_ret
    exact ⟨rfl, hg.out, World.grownBy.refl _ _⟩
  | dead =>
    simp only [Ph.st, Ph.bd] at h4 h5
    go_enter Try.func12, Try.ntmps12
    go_wp2
    go_ret
    exact ⟨rfl, hg.out, World.grownBy.refl _ _⟩

set_option maxRecDepth 100000 in
set_option maxHeartbeats 1600000 in
theorem bx_booted (b : Nat) (c : Bo) (now : Int) (w : World) (hr : Bx w b c) :
    Calls Try.prog 13 #[.pointer (some ⟨b, 0, none⟩), .int .i64 now] w fun e w' => e = .returned (.bool (nx 1 c now).2) ∧ Bx w' b (nx 1 c now).1 ∧ w.grownBy w' (some b) := by
  obtain ⟨i, f, h, m, q, p, t⟩ := c
  have hg := Lib.hid hr
  have h4 := cellL hr 4 _ rfl
  have h5 := cellL hr 5 _ rfl
  simp only [] at h4 h5
  clear hr
  cases q with
  | boot =>
    simp only [Ph.st, Ph.bd] at h4 h5
    have hg1 : Hid (w.heap[b]? = some (.cells (bcs i f h m 0 false p t).toArray 29 (0, 0))) := Lib.hid hg.out
    go_enter Try.func13, Try.ntmps13
    go_wp2_with (with_reducible refine wpList_store_boolin rfl 4 (.tmp 17) (.const (.bool false)) rfl (by kernel_rfl) b 5 rfl false rfl _ _ hg1.out (by simp) ?_; intro w2 HG2 hg2)
    refine (bx_turn b i f h m 0 false p t 1 now w2 HG2.out).mono ?_
    rintro e w3 ⟨rfl, h3, hg3⟩
    have HG3 := Lib.hid h3
    clear h4 h5 h3
    go_wp2
    go_ret
    exact ⟨rfl, HG3.out, grown_trans hg2 hg3⟩
  | bound =>
    simp only [Ph.st, Ph.bd] at h4 h5
    have hg1 : Hid (w.heap[b]? = some (.cells (bcs i f h m 0 true p t).toArray 29 (0, 0))) := Lib.hid hg.out
    go_enter Try.func13, Try.ntmps13
    go_wp2_with (with_reducible refine wpList_store_boolin rfl 4 (.tmp 17) (.const (.bool false)) rfl (by kernel_rfl) b 5 rfl false rfl _ _ hg1.out (by simp) ?_; intro w2 HG2 hg2)
    refine (bx_turn b i f h m 0 false p t 2 now w2 HG2.out).mono ?_
    rintro e w3 ⟨rfl, h3, hg3⟩
    have HG3 := Lib.hid h3
    clear h4 h5 h3
    go_wp2
    go_ret
    exact ⟨rfl, HG3.out, grown_trans hg2 hg3⟩
  | warm =>
    simp only [Ph.st, Ph.bd] at h4 h5
    go_enter Try.func13, Try.ntmps13
    go_wp2
    go_ret
    exact ⟨rfl, hg.out, World.grownBy.refl _ _⟩
  | busy =>
    simp only [Ph.st, Ph.bd] at h4 h5
    go_enter Try.func13, Try.ntmps13
    go_wp2
    go_ret
    exact ⟨rfl, hg.out, World.grownBy.refl _ _⟩
  | dead =>
    simp only [Ph.st, Ph.bd] at h4 h5
    go_enter Try.func13, Try.ntmps13
    go_wp2
    go_ret
    exact ⟨rfl, hg.out, World.grownBy.refl _ _⟩

set_option maxRecDepth 100000 in
set_option maxHeartbeats 1600000 in
theorem bx_done (b : Nat) (c : Bo) (now : Int) (w : World) (hr : Bx w b c) :
    Calls Try.prog 14 #[.pointer (some ⟨b, 0, none⟩), .int .i64 now] w fun e w' => e = .returned (.bool (nx 2 c now).2) ∧ Bx w' b (nx 2 c now).1 ∧ w.grownBy w' (some b) := by
  obtain ⟨i, f, h, m, q, p, t⟩ := c
  have hg := Lib.hid hr
  have h4 := cellL hr 4 _ rfl
  simp only [] at h4
  clear hr
  cases q with
  | busy =>
    simp only [Ph.st] at h4
    go_enter Try.func14, Try.ntmps14
    go_wp2_with fail
    refine (bx_turn b i f h m 2 false p t 1 now w hg.out).mono ?_
    rintro e w2 ⟨rfl, h2, hg2⟩
    have HG2 := Lib.hid h2
    clear h4 h2
    go_wp2
    go_ret
    exact ⟨rfl, HG2.out, hg2⟩
  | _ =>
    simp only [Ph.st] at h4
    go_enter Try.func14, Try.ntmps14
    go_wp2
    go_ret
    exact ⟨rfl, hg.out, World.grownBy.refl _ _⟩

set_option maxRecDepth 100000 in
set_option maxHeartbeats 3200000 in
theorem bx_kill (b : Nat) (c : Bo) (now : Int) (w : World) (hr : Bx w b c) :
    Calls Try.prog 15 #[.pointer (some ⟨b, 0, none⟩), .int .i64 now] w fun e w' => e = .returned (.bool (nx 3 c now).2) ∧ Bx w' b (nx 3 c now).1 ∧ w.grownBy w' (some b) := by
  obtain ⟨i, f, h, m, q, p, t⟩ := c
  have hg := Lib.hid hr
  have h4 := cellL hr 4 _ rfl
  simp only [] at h4
  clear hr
  cases q with
  | dead =>
    simp only [Ph.st] at h4
    go_enter Try.func15, Try.ntmps15
    go_wp2
    go_ret
    exact ⟨rfl, hg.out, World.grownBy.refl _ _⟩
  | _ =>
    simp only [Ph.st] at h4
    obtain ⟨st, bd, hg1⟩ : ∃ st bd, Hid (w.heap[b]? = some (.cells (bcs i f h m st bd p t).toArray 29 (0, 0))) := ⟨_, _, Lib.hid hg.out⟩
    go_enter Try.func15, Try.ntmps15
    go_wp2_with (first
      | (with_reducible refine wpList_store_boolin rfl 4 (.tmp 13) (.const (.bool false)) rfl (by kernel_rfl) b 5 rfl false rfl _ _ hg1.out (by simp) ?_; intro w2 HG2 hg2)
      | (with_reducible refine wpList_store_boolin rfl 4 (.tmp 15) (.const (.bool false)) rfl (by kernel_rfl) b 6 rfl false rfl _ _ HG2.out (by simp) ?_; intro w3 HG3 hg3))
    refine (bx_turn b i f h m st false false t 3 now w3 HG3.out).mono ?_
    rintro e w4 ⟨rfl, h4', hg4⟩
    have HG4 := Lib.hid h4'
    clear h4 h4'
    go_wp2
    go_ret
    exact ⟨rfl, HG4.out, grown_trans (grown_trans hg2 hg3) hg4⟩

end Go.Proofs.Ythmmobhbakmbpaa.W
