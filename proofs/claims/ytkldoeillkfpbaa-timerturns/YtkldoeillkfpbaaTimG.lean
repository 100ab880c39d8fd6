/- The law TimerTurns: words, and its function within. -/
import Derived.Test.YtkldoeillkfpbaaTimF
namespace Go.Proofs.Ytkldoeillkfpbaa.W.HT
open Go.RowKit

def idx (n s z : Nat) : Nat := (z + (n - s % n)) % n
theorem idx_of {n s i : Nat} (hi : i < n) : idx n s ((i + s) % n) = i := by
  unfold idx
  have hs : s % n < n := Nat.mod_lt _ (by omega)
  rw [Nat.mod_add_mod, Nat.add_assoc]
  have : s + (n - s % n) = n * (s / n + 1) := by
    have h := Nat.div_add_mod s n
    rw [Nat.mul_add, Nat.mul_one]; omega
  rw [this, Nat.add_mul_mod_self_left]
  exact Nat.mod_eq_of_lt hi
theorem idx_inj {n s y z : Nat} (hy : y < n) (hz : z < n) (h : idx n s y = idx n s z) : y = z := by
  unfold idx at h
  have hs : s % n < n := Nat.mod_lt _ (by omega)
  have e1 : (y + (n - s % n)) % n = if y < s % n then y + (n - s % n) else y - s % n := by
    split
    · exact Nat.mod_eq_of_lt (by omega)
    · rw [show y + (n - s % n) = y - s % n + n by omega, Nat.add_mod_right]; exact Nat.mod_eq_of_lt (by omega)
  have e2 : (z + (n - s % n)) % n = if z < s % n then z + (n - s % n) else z - s % n := by
    split
    · exact Nat.mod_eq_of_lt (by omega)
    · rw [show z + (n - s % n) = z - s % n + n by omega, Nat.add_mod_right]; exact Nat.mod_eq_of_lt (by omega)
  rw [e1, e2] at h
  split at h <;> split at h <;> omega

/-- The numbers' keys have these times, and none else has one. -/
structure Km (kf : Nat → K) (n : Nat) (E : Nat → Option Int) (A : K → Option Int) : Prop where
  at_ : ∀ j, j < n → A (kf j) = E j
  out : ∀ k, (∀ j, j < n → kf j ≠ k) → A k = none
theorem Km.start (kf : Nat → K) (n : Nat) : Km kf n (fun _ => none) (fun _ => none) := ⟨fun _ _ => rfl, fun _ _ => rfl⟩
theorem Km.ext {kf : Nat → K} {n : Nat} {E E' : Nat → Option Int} {A : K → Option Int} (h : Km kf n E A) (e : ∀ j, j < n → E j = E' j) : Km kf n E' A := ⟨fun j hj => by rw [← e j hj]; exact h.at_ j hj, h.out⟩
theorem Km.set {kf : Nat → K} {n : Nat} {E E' : Nat → Option Int} {A : K → Option Int} (inj : ∀ i j, i < n → j < n → kf i = kf j → i = j) (h : Km kf n E A) {i : Nat} (hi : i < n) (t : Int) (e0 : E' i = some t) (e : ∀ j, j < n → j ≠ i → E' j = E j) : Km kf n E' (updZ A (kf i) (some t)) := by
  refine ⟨fun j hj => ?_, fun k hk => ?_⟩
  · by_cases q : j = i
    · rw [q, updZ_same, e0]
    · rw [updZ_ne _ _ (fun q' => q (inj j i hj hi q')), e j hj q]; exact h.at_ j hj
  · rw [updZ_ne _ _ (fun q => hk i hi q.symm)]; exact h.out k hk
theorem Km.uniq {kf : Nat → K} {n : Nat} {E : Nat → Option Int} {A B : K → Option Int} (h : Km kf n E A) (h' : Km kf n E B) : A = B := by
  funext k
  by_cases q : ∃ j, j < n ∧ kf j = k
  · obtain ⟨j, hj, rfl⟩ := q
    rw [h.at_ j hj, h'.at_ j hj]
  · have hk : ∀ j, j < n → kf j ≠ k := fun j hj e => q ⟨j, hj, e⟩
    rw [h.out k hk, h'.out k hk]
/-- A number of a list, or 0. -/
def nth (xs : List Int) (i : Nat) : Int := (xs[i]?).getD 0
theorem nth_at {xs : List Int} {i : Nat} {x : Int} (h : xs[i]? = some x) : nth xs i = x := by unfold nth; rw [h]; rfl
/-- The key of a number. -/
def kq (x : Int) : K := (x % 2, x % 256)
theorem kq_kw (x : Int) : kw (kq x) := ⟨wfS (x := x % 2) (by omega) (by omega), wfS (x := x % 256) (by omega) (by omega)⟩
def kfn (xs : List Int) (i : Nat) : K := kq (nth xs i)
theorem kfn_inj {xs : List Int} {n : Nat} (h : ∀ p, p < n → ∀ q, q < p → nth xs p % 256 ≠ nth xs q % 256) : ∀ i j, i < n → j < n → kfn xs i = kfn xs j → i = j := by
  intro i j hi hj e
  have e2 : nth xs i % 256 = nth xs j % 256 := by injection e
  rcases Nat.lt_trichotomy i j with q | q | q
  · exact absurd e2.symm (h j hj i q)
  · exact q
  · exact absurd e2 (h i hi j q)
def frE (fs : List Int) (i : Nat) : Nat → Option Int := fun j => if j < i then some (nth fs j) else none
def mxE (ts fs : List Int) (m p : Nat) : Nat → Option Int := fun j => if j < p then some (nth ts j) else if j < m then some (nth fs j) else none
def rtE (ts : List Int) (n s p : Nat) : Nat → Option Int := fun j => if idx n s j < p then some (nth ts j) else none

set_option maxRecDepth 100000 in
set_option maxHeartbeats 1600000 in
theorem key_any (V : Nat) (ad : Addr) (n cap i : Nat) (x : Int) (w : World) (HV : w.heap[V]? = some (.cells #[.slice (some ad) n cap] 42 (0, 0))) (hi : i < n) (cx : w.cell? (ad.add i) = some (.int .i64 x)) :
    Calls Try.prog 19 #[.int .i64 (i : Int), .pointer (some ⟨V, 0, none⟩)] w fun e w' => e = .returned (kv (kq x)) ∧ Below w.heap.size w w' := by
  obtain ⟨p, hp⟩ : ∃ p, bits .and .i64 x 1 = p := ⟨_, rfl⟩
  obtain ⟨q, hq⟩ : ∃ q, bits .and .i64 x 255 = q := ⟨_, rfl⟩
  have hkq : kq x = (p, q) := by unfold kq; rw [← hp, ← hq, and_mask x 1 1 2 (by decide) (by decide) (by decide), and_mask x 255 8 256 (by decide) (by decide) (by decide)]; rfl
  rw [hkq]
  clear hkq
  have hii : (i : Int) < (n : Int) := by omega
  go_enter Try.func19, Try.ntmps19
  go_upto_region 1 with (fail)
  have o1 : Only w (w.alloc (.cells #[.int .i64 0, .int .i64 0] 30)) (fun _ => False) := (Only.refl w _).alloc _
  have HR := Lib.hid (heap_alloc_new w (.cells #[.int .i64 0, .int .i64 0] 30))
  have HV1 := o1.blk (fun q => q) HV
  have cx1 := o1.cell (fun q => q) cx
  clear HV cx
  generalize w.alloc (.cells #[.int .i64 0, .int .i64 0] 30) = w1 at o1 HR HV1 cx1 ⊢
  have v0 := cell_of_row _ _ 0 _ _ _ HV1
  go_still_tail 11, (by kernel_rfl)
  change wpList _ _ _ _ _ w1.drew
  have o2 : Only w w1.drew (fun _ => False) := o1.drewN 1
  have HR2 := Lib.hid (((Only.refl w1 (fun _ => False)).drewN 1).blk (fun q => q) HR.out)
  change Hid (w1.drew.heap[_]? = _) at HR2
  clear v0 cx1 HV1
  generalize w1.drew = w2 at o2 HR2 ⊢
  refine wpList_store_key rfl (.tmp 3) (.tmp 14) rfl w.heap.size p q rfl rfl 0 0 HR2 ?_
  intro w3 HB3 hg3
  have o3 : Only w w3 (fun _ => False) := o2.trans (Only.grown hg3 (Or.inl rfl) : Only w2 w3 (fun j => j = w.heap.size)) (fun j q => Or.inr (by omega))
  have z0 := cell_of_row _ _ 0 _ _ _ HB3.out
  have z1 := cell_of_row _ _ 1 _ _ _ HB3.out
  go_wp2_with fail
  exact bodyPost_ret (v := kv (p, q)) (by simp [results, Try.results19, go_sem, z0, z1]) rfl ⟨rfl, o3.below (fun _ q => q.elim) (Nat.le_refl _)⟩
end Go.Proofs.Ytkldoeillkfpbaa.W.HT
