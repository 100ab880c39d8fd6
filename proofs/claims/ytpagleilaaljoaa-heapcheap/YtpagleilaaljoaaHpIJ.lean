/- A heap of ints by the plain order, and the laws' example. -/
import Derived.Test.YtpagleilaaljoaaHpIH
namespace Go.Proofs.Ytpagleilaaljoaa.W.HI
open Go.RowKit

abbrev F14 : Value := .func (.func 14) #[] #[]
/-- A heap whose blocks are all of P. -/
def Hq (P : Nat → Prop) (w : World) (r n : Nat) (A : Int → Option V) : Prop := ∃ X, Ob w r F14 n A X ∧ ∀ j, X j → P j
theorem Hq.kept {P S : Nat → Prop} {w w' : World} {r n : Nat} {A : Int → Option V} (h : Hq P w r n A) (ho : Only w w' S) (hd : ∀ j, P j → ¬ S j) : Hq P w' r n A := by
  obtain ⟨X, h1, h2⟩ := h; exact ⟨X, h1.kept ho (fun j q => hd j (h2 j q)), h2⟩
theorem Hq.below {P : Nat → Prop} {w w' : World} {r n : Nat} {A : Int → Option V} (h : Hq P w r n A) (hb : Below w.heap.size w w') : Hq P w' r n A :=
  h.kept (Only.of_below (S := fun _ => False) hb) (fun _ _ q => q)
theorem Hq.tight {P : Nat → Prop} {w : World} {r n : Nat} {A : Int → Option V} (h : Hq P w r n A) : Hq (fun j => P j ∧ j < w.heap.size) w r n A := by
  obtain ⟨X, h1, h2⟩ := h; exact ⟨X, h1, fun j q => ⟨h2 j q, h1.lt j q⟩⟩
theorem Hq.mono {P P' : Nat → Prop} {w : World} {r n : Nat} {A : Int → Option V} (h : Hq P w r n A) (hp : ∀ j, P j → P' j) : Hq P' w r n A := by
  obtain ⟨X, h1, h2⟩ := h; exact ⟨X, h1, fun j q => hp j (h2 j q)⟩

theorem q_new (w : World) : Calls Try.prog 13 #[F14] w fun e w' => e = .returned (.pointer (some ⟨w.heap.size, 0, none⟩)) ∧ Hq (fun j => j = w.heap.size) w' w.heap.size 0 (fun _ => none) ∧ Below w.heap.size w w' :=
  (new_any _ _ _ w).mono fun _ _ ⟨a, b, c⟩ => ⟨a, ⟨_, b, fun _ q => q⟩, c⟩
theorem q_set {P : Nat → Prop} (w : World) (r n : Nat) (A : Int → Option V) (k v : Int) (h : Hq P w r n A) (hk : (KL k).wf = true) (hv : (KL v).wf = true) (hn : n < 1073741823) (n' : Nat) (hn' : n' = if (A k).isSome then n else n + 1) (hP : ∀ j, w.heap.size ≤ j → P j) :
    Calls Try.prog 17 #[.pointer (some ⟨r, 0, none⟩), .int .i64 k, .int .i64 v] w fun e w' => e = .returned (.tuple #[]) ∧ Hq P w' r n' (updZ A k (some v)) ∧ Only w w' P := by
  obtain ⟨X, h1, h2⟩ := h
  refine (set_any (less14 r) n A X k v w h1 hk hv hn 0 (by decide) trivial (fun _ q => q.elim) (fun _ q => q.elim) n' hn').mono ?_
  rintro e w' ⟨rfl, X', a, h3, h4, _, _, h5⟩
  refine ⟨rfl, ⟨X', h3, fun j q => ?_⟩, h5.mono (fun j q => q.elim (h2 j) (fun q => q.elim))⟩
  rcases h4 j q with q | q
  · exact h2 j q
  · exact hP j q
theorem q_drop {P : Nat → Prop} (w : World) (r n : Nat) (A : Int → Option V) (k v : Int) (h : Hq P w r n A) (hA : A k = some v) (hn : n < 1073741824) (n1 : Nat) (hn1 : n = n1 + 1) (hP : ∀ j, w.heap.size ≤ j → P j) :
    Calls Try.prog 15 #[.pointer (some ⟨r, 0, none⟩), .int .i64 k] w fun e w' => e = .returned (.bool true) ∧ Hq P w' r n1 (updZ A k none) ∧ Only w w' P := by
  obtain ⟨X, h1, h2⟩ := h
  refine (drop_some (less14 r) n A X k v w h1 (h1.okV hA).2 hA hn 0 (by decide) trivial (fun _ q => q.elim) (fun _ q => q.elim) n1 hn1).mono ?_
  rintro e w' ⟨rfl, X', a, h3, h4, _, _, h5⟩
  refine ⟨rfl, ⟨X', h3, fun j q => ?_⟩, h5.mono (fun j q => q.elim (h2 j) (fun q => q.elim))⟩
  rcases h4 j q with q | q
  · exact h2 j q
  · exact hP j q
theorem q_drop0 {P : Nat → Prop} (w : World) (r n : Nat) (A : Int → Option V) (k : Int) (h : Hq P w r n A) (hk : (KL k).wf = true) (hA : A k = none) :
    Calls Try.prog 15 #[.pointer (some ⟨r, 0, none⟩), .int .i64 k] w fun e w' => e = .returned (.bool false) ∧ w = w' := by
  obtain ⟨X, h1, h2⟩ := h
  exact drop_none n A X k w h1 hk hA
theorem q_min {P : Nat → Prop} (w : World) (r n : Nat) (A : Int → Option V) (h : Hq P w r n A) (hn : 0 < n) (hn2 : n < 1073741824) :
    Calls Try.prog 16 #[.pointer (some ⟨r, 0, none⟩)] w fun e w' => ∃ k v : Int, e = .returned (.tuple #[.int .i64 k, .int .i64 v, .bool true]) ∧ A k = some v ∧ (∀ k' v', A k' = some v' → v ≤ v') ∧ (KL k).wf = true ∧ (KL v).wf = true ∧ Below w.heap.size w w' := by
  obtain ⟨X, h1, h2⟩ := h
  refine (min_some r _ n A X w h1 hn hn2).mono ?_
  rintro e w' ⟨k, v, rfl, h3, h4, h5⟩
  exact ⟨k, v, rfl, h3, h4, (h1.okV h3).2, (h1.okV h3).1, h5⟩
theorem q_min0 {P : Nat → Prop} (w : World) (r : Nat) (A : Int → Option V) (h : Hq P w r 0 A) :
    Calls Try.prog 16 #[.pointer (some ⟨r, 0, none⟩)] w fun e w' => e = .returned (.tuple #[.int .i64 0, .int .i64 0, .bool false]) ∧ Below w.heap.size w w' := by
  obtain ⟨X, h1, h2⟩ := h
  exact min_none r _ A X w h1
theorem q_len {P : Nat → Prop} (w : World) (r n : Nat) (A : Int → Option V) (h : Hq P w r n A) :
    Calls Try.prog 18 #[.pointer (some ⟨r, 0, none⟩)] w fun e w' => e = .returned (.int .i64 (n : Int)) ∧ w = w' := by
  obtain ⟨X, h1, h2⟩ := h
  exact len_any r _ n A X w h1

set_option maxRecDepth 100000 in
set_option maxHeartbeats 1600000 in
theorem head8 (w : World) : Calls Try.prog 12 #[] w fun e w' => e = .returned (.bool true) ∧ Below w.heap.size w w' := by
  have hP : ∀ w1 : World, w.heap.size ≤ w1.heap.size → ∀ j, w1.heap.size ≤ j → (fun j => w.heap.size ≤ j) j := fun w1 h j q => by show w.heap.size ≤ j; omega
  go_enter Try.func12, Try.ntmps12
  go_wp2_with fail
  refine (q_new w).mono ?_
  rintro e w1 ⟨rfl, h1, b1⟩
  have h1 := h1.mono (P' := fun j => w.heap.size ≤ j) (fun j q => by rw [q]; exact Nat.le_refl _)
  have s1 := b1.size
  go_wp2_with fail
  refine (q_set w1 _ 0 _ 1 5 h1 (by decide) (by decide) (by decide) 1 rfl (hP w1 s1)).mono ?_
  rintro e w2 ⟨rfl, h2, o2⟩
  have s2 := Nat.le_trans s1 o2.size
  go_wp2_with fail
  refine (q_set w2 _ 1 _ 2 3 h2 (by decide) (by decide) (by decide) 2 rfl (hP w2 s2)).mono ?_
  rintro e w3 ⟨rfl, h3, o3⟩
  have s3 := Nat.le_trans s2 o3.size
  go_wp2_with fail
  refine (q_set w3 _ 2 _ 1 2 h3 (by decide) (by decide) (by decide) 2 rfl (hP w3 s3)).mono ?_
  rintro e w4 ⟨rfl, h4, o4⟩
  have s4 := Nat.le_trans s3 o4.size
  go_wp2_with fail
  refine (q_min w4 _ 2 _ h4 (by decide) (by decide)).mono ?_
  rintro e w5 ⟨k, v, rfl, hA, hmin, hk, hv, b5⟩
  have hkv : k = 1 ∧ v = 2 := by
    have h12 := hmin 1 2 rfl
    unfold updZ at hA
    split at hA
    · rename_i q; injection hA with hA; exact ⟨q, hA.symm⟩
    · split at hA
      · injection hA with hA; omega
      · cases hA
  obtain ⟨rfl, rfl⟩ := hkv
  have h5 := h4.below b5
  go_wp2_with fail
  refine (q_len w5 _ 2 _ h5).mono ?_
  rintro e w6 ⟨rfl, rfl⟩
  go_wp2_with fail
  go_ret
  refine ⟨rfl, b1.trans ((o2.below (fun _ q => q) s1).trans ((o3.below (fun _ q => q) s2).trans ((o4.below (fun _ q => q) s3).trans (b5.mono s4))))⟩
end Go.Proofs.Ytpagleilaaljoaa.W.HI
