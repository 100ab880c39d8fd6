/- Contracts of tally.Memo over strings: Do, Get, Made, New; the law TallyOnce. -/
import Derived.Test.YtkldoeillkfpbaaTalD
namespace Go.Proofs.Ytkldoeillkfpbaa.W
open Go.RowKit

theorem Only.set {a b : World} {S : Nat → Prop} (h : Only a b S) (n r j : Nat) (v : Value) (hr : S r) : Only a ((b.drewN n).setCell ⟨r, j, none⟩ v) S := h.tr (Only.grown (grown_set b n r j v) (Or.inl hr))

set_option maxRecDepth 100000 in
set_option maxHeartbeats 1600000 in
theorem slow_any (b q : Nat) (s : ByteArray) (n : Int) (w : World) (h : Me w b 0 0 (mf q) ByteArray.empty 0) (hq : Mk w q s n) (hbq : b ≠ q) (h0 : 0 ≤ n) (h1 : n ≤ 100) :
    Calls Try.prog 50 #[.pointer (some ⟨b, 0, none⟩), .func (.func 43) #[.pointer (some ⟨b, 0, none⟩)] #[]] w fun e w' => e = .returned (.tuple #[]) ∧ Me w' b 1 0 .nilFunc s 1 ∧ Mk w' q s (n + 1) ∧ Only w w' (fun j => j = b ∨ j = q) := by
  have c1 := cellL h 1 _ rfl
  have hno := hnot
  go_enter_defers Try.func50, Try.ntmps50
  go_wp2_with fail
  refine (lock_free ⟨b, 1, none⟩ _ c1 (frozen_of_row _ _ _ _ _ h)).mono ?_
  rintro e w2 ⟨rfl, rfl⟩
  have m2 : Me (w.setCell ⟨b, 1, none⟩ (.int .i32 1)) b 0 1 (mf q) ByteArray.empty 0 := set_rowL (cs := mcs 0 0 (mf q) ByteArray.empty 0) h 1 _
  have o2 : Only w (w.setCell ⟨b, 1, none⟩ (.int .i32 1)) (fun j => j = b) := (Only.refl w _).set 0 b 1 _ rfl
  have q2 := o2.blk (fun q => hbq q.symm) hq
  clear c1 h hq
  generalize w.setCell ⟨b, 1, none⟩ (.int .i32 1) = w2 at m2 o2 q2 ⊢
  go_wp2_with fail
  refine (bld_any ⟨b, 0, none⟩ 0 _ (cellL m2 0 _ rfl) false (by decide)).mono ?_
  rintro e w3 ⟨rfl, rfl⟩
  go_wp2_with fail
  refine (fill_any b q 1 s n _ m2 q2 hbq h0 h1).mono ?_
  rintro e w3 ⟨rfl, m3, q3, o3⟩
  have o4 := (o2.mono (S' := fun j => j = b ∨ j = q) (fun _ q => Or.inl q)).tr o3
  clear m2 q2 o2 o3
  go_wp2_with fail
  refine leaves_cons (f := 51) (args := #[.pointer (some ⟨b, 0, none⟩), .bool true]) (by simp) (by simp [go_sem]) ?_
  refine (bst_deferred ⟨b, 0, none⟩ (.int .u32 0) .returning _ (cellL m3 0 _ rfl) (frozen_of_row _ _ _ _ _ m3)).mono ?_
  rintro e u' w'' ⟨rfl, rfl, rfl⟩
  have m5 : Me (w3.drew.setCell ⟨b, 0, none⟩ (.int .u32 1)) b 1 1 .nilFunc s 1 := set_rowL (w := w3.drew) (cs := mcs 0 1 .nilFunc s 1) m3 0 _
  have o5 := o4.set 1 b 0 (.int .u32 1) (Or.inl rfl)
  have q5 := ((Only.refl w3 (fun j => j = b)).set 1 b 0 (.int .u32 1) rfl).blk (fun q => hbq q.symm) q3
  change Only w (w3.drew.setCell ⟨b, 0, none⟩ (.int .u32 1)) _ at o5
  change (w3.drew.setCell ⟨b, 0, none⟩ (.int .u32 1)).heap[q]? = _ at q5
  generalize w3.drew.setCell ⟨b, 0, none⟩ (.int .u32 1) = w5 at m5 o5 q5 ⊢
  refine leaves_cons (f := 57) (args := #[.pointer (some ⟨b, 1, none⟩)]) (by simp [settle]) (by simp [go_sem]) ?_
  refine (unlock_deferred ⟨b, 1, none⟩ _ _ (cellL m5 1 _ rfl) (frozen_of_row _ _ _ _ _ m5)).mono ?_
  rintro e u' w'' ⟨rfl, rfl, rfl⟩
  have m6 : Me (w5.setCell ⟨b, 1, none⟩ (.int .i32 0)) b 1 0 .nilFunc s 1 := set_rowL (cs := mcs 1 1 .nilFunc s 1) m5 1 _
  have o6 : Only w (w5.setCell ⟨b, 1, none⟩ (.int .i32 0)) _ := o5.set 0 b 1 (.int .i32 0) (Or.inl rfl)
  have q6 : Mk (w5.setCell ⟨b, 1, none⟩ (.int .i32 0)) q s (n + 1) := ((Only.refl w5 (fun j => j = b)).set 0 b 1 (.int .i32 0) rfl).blk (fun q => hbq q.symm) q5
  generalize w5.setCell ⟨b, 1, none⟩ (.int .i32 0) = w6 at m6 o6 q6 ⊢
  simp [Leaves, settle, results, Try.results50]
  exact ⟨m6, q6, o6⟩

set_option maxRecDepth 100000 in
set_option maxHeartbeats 1600000 in
theorem get_first (b q : Nat) (s : ByteArray) (n : Int) (w : World) (h : Me w b 0 0 (mf q) ByteArray.empty 0) (hq : Mk w q s n) (hbq : b ≠ q) (h0 : 0 ≤ n) (h1 : n ≤ 100) :
    Calls Try.prog 29 #[.pointer (some ⟨b, 0, none⟩)] w fun e w' => e = .returned (.string s) ∧ Me w' b 1 0 .nilFunc s 1 ∧ Mk w' q s (n + 1) ∧ Only w w' (fun j => j = b ∨ j = q) := by
  have hno := hnot
  have hdo : Calls Try.prog 42 #[.pointer (some ⟨b, 0, none⟩), .func (.func 43) #[.pointer (some ⟨b, 0, none⟩)] #[]] w fun e w' => e = .returned (.tuple #[]) ∧ Me w' b 1 0 .nilFunc s 1 ∧ Mk w' q s (n + 1) ∧ Only w w' (fun j => j = b ∨ j = q) := by
    go_enter Try.func42, Try.ntmps42
    go_wp2_with fail
    refine (bld_any ⟨b, 0, none⟩ 0 _ (cellL h 0 _ rfl) false (by decide)).mono ?_
    rintro e w3 ⟨rfl, rfl⟩
    go_wp2_with fail
    refine (slow_any b q s n _ h hq hbq h0 h1).mono ?_
    rintro e w3 ⟨rfl, m3, q3, o3⟩
    go_wp2_with fail
    go_end0
    exact ⟨rfl, m3, q3, o3⟩
  clear h hq
  go_enter Try.func29, Try.ntmps29
  go_wp2_with fail
  refine hdo.mono ?_
  rintro e w3 ⟨rfl, m3, q3, o3⟩
  have c4 := cellL m3 4 _ rfl
  clear hdo
  go_wp2_with fail
  go_ret
  exact ⟨rfl, m3, q3, o3⟩

set_option maxRecDepth 100000 in
set_option maxHeartbeats 1600000 in
theorem get_again (b : Nat) (s : ByteArray) (w : World) (h : Me w b 1 0 .nilFunc s 1) :
    Calls Try.prog 29 #[.pointer (some ⟨b, 0, none⟩)] w fun e w' => e = .returned (.string s) ∧ w = w' := by
  have hno := hnot
  have c4 := cellL h 4 _ rfl
  have hdo : Calls Try.prog 42 #[.pointer (some ⟨b, 0, none⟩), .func (.func 43) #[.pointer (some ⟨b, 0, none⟩)] #[]] w fun e w' => e = .returned (.tuple #[]) ∧ w = w' := by
    clear c4
    go_enter Try.func42, Try.ntmps42
    go_wp2_with fail
    refine (bld_any ⟨b, 0, none⟩ 1 _ (cellL h 0 _ rfl) true (by decide)).mono ?_
    rintro e w3 ⟨rfl, rfl⟩
    go_wp2_with fail
    go_end0
    exact ⟨rfl, rfl⟩
  clear h
  go_enter Try.func29, Try.ntmps29
  go_wp2_with fail
  refine hdo.mono ?_
  rintro e w3 ⟨rfl, rfl⟩
  clear hdo
  go_wp2_with fail
  go_ret
  exact ⟨rfl, rfl⟩

theorem made_any (b : Nat) (d l : Int) (f : Value) (i : ByteArray) (m : Int) (g : Bool) (hg : (m != 0) = g) (w : World) (h : Me w b d l f i m) :
    Calls Try.prog 28 #[.pointer (some ⟨b, 0, none⟩)] w fun e w' => e = .returned (.bool g) ∧ w = w' := by
  go_enter Try.func28, Try.ntmps28
  go_wp2_with fail
  refine (bld_any ⟨b, 5, none⟩ m _ (cellL h 5 _ rfl) g hg).mono ?_
  rintro e w3 ⟨rfl, rfl⟩
  go_wp2_with fail
  go_ret
  exact ⟨rfl, rfl⟩

set_option maxRecDepth 100000 in
theorem mnew_any (q : Nat) (w : World) :
    Calls Try.prog 26 #[mf q] w fun e w' => e = .returned (.pointer (some ⟨w.heap.size, 0, none⟩)) ∧ Me w' w.heap.size 0 0 (mf q) ByteArray.empty 0 ∧ Below w.heap.size w w' := by
  go_enter Try.func26, Try.ntmps26
  go_wp2
  go_ret
  exact ⟨rfl, heap_alloc_new _ _, (Below.refl _ _).alloc (Nat.le_refl _) _⟩

end Go.Proofs.Ytkldoeillkfpbaa.W
