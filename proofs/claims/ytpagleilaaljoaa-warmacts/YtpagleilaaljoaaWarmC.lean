/- Package warm for the laws: a cache beside boxes; the document's example. -/
import Derived.Test.YtpagleilaaljoaaWarmB
import Derived.Test.YtpagleilaaljoaaRatioH
namespace Go.Proofs.Ytpagleilaaljoaa.W.HR
open Go.RowKit
open Go.Proofs.Ytpagleilaaljoaa.R (order_any cmpI cmp_lt cmp_gt cmp_eq U64 Rat)

/-- A cache in blocks from B on, but for those of L. -/
structure Cz (B : Nat) (L : List Nat) (w : World) (c cl n : Nat) (A : Int → Option V) : Prop where
  cq : Cq (fun j => B ≤ j ∧ j ∉ L) w c cl n A
  lo : ∀ q, q ∈ L → B ≤ q ∧ q < w.heap.size
  sz : B ≤ w.heap.size
/-- Nothing below B has turned, and nothing of L. -/
abbrev Stp (B : Nat) (L : List Nat) (w w' : World) : Prop := Only w w' (fun j => B ≤ j ∧ j ∉ L)
theorem Stp.bel {B : Nat} {L : List Nat} {w w' : World} (h : Stp B L w w') (hB : B ≤ w.heap.size) : Below B w w' := h.below (fun _ q => q.1) hB
theorem Stp.box {B : Nat} {L : List Nat} {w w' : World} (h : Stp B L w w') {q : Nat} {o : Obj} (hq : q ∈ L) (hb : w.heap[q]? = some o) : w'.heap[q]? = some o := h.blk (fun e => e.2 hq) hb
theorem Cz.fresh {B : Nat} {L : List Nat} {w : World} {c cl n : Nat} {A : Int → Option V} (h : Cz B L w c cl n A) : ∀ j, w.heap.size ≤ j → (fun j => B ≤ j ∧ j ∉ L) j :=
  fun j hj => ⟨Nat.le_trans h.sz hj, fun q => by have := (h.lo j q).2; omega⟩
theorem Cz.next {B : Nat} {L : List Nat} {w w' : World} {c cl n cl' n' : Nat} {A A' : Int → Option V} (h : Cz B L w c cl n A) (hc : Cq (fun j => B ≤ j ∧ j ∉ L) w' c cl' n' A') (ho : Stp B L w w') : Cz B L w' c cl' n' A' :=
  ⟨hc, fun q hq => ⟨(h.lo q hq).1, Nat.lt_of_lt_of_le (h.lo q hq).2 ho.size⟩, Nat.le_trans h.sz ho.size⟩
theorem Cz.below {B : Nat} {L : List Nat} {w w' : World} {c cl n : Nat} {A : Int → Option V} (h : Cz B L w c cl n A) (hb : Below w.heap.size w w') : Cz B L w' c cl n A := h.next (h.cq.below hb) (Only.of_below hb)
theorem Cz.alloc {B : Nat} {L : List Nat} {w : World} {c cl n : Nat} {A : Int → Option V} (h : Cz B L w c cl n A) (o : Obj) : Cz B (w.heap.size :: L) (w.alloc o) c cl n A := by
  have hb : Below w.heap.size w (w.alloc o) := (Below.refl _ _).alloc (Nat.le_refl _) _
  have hs : w.heap.size < (w.alloc o).heap.size := by rw [World.size_alloc]; omega
  refine ⟨(h.cq.tight.below hb).mono (fun j q => ⟨q.1.1, ?_⟩), fun q hq => ?_, Nat.le_trans h.sz hb.size⟩
  · intro e
    rcases List.mem_cons.1 e with e | e
    · omega
    · exact q.1.2 e
  · rcases List.mem_cons.1 hq with e | e
    · rw [e]; exact ⟨h.sz, hs⟩
    · exact ⟨(h.lo q e).1, Nat.lt_trans (h.lo q e).2 hs⟩
theorem Cz.less {B : Nat} {L L' : List Nat} {w : World} {c cl n : Nat} {A : Int → Option V} (h : Cz B L w c cl n A) (hs : ∀ q, q ∈ L' → q ∈ L) : Cz B L' w c cl n A :=
  ⟨h.cq.mono (fun _ q => ⟨q.1, fun e => q.2 (hs _ e)⟩), fun q hq => h.lo q (hs q hq), h.sz⟩

theorem z_set {B : Nat} {L : List Nat} (w : World) (c cl n : Nat) (A : Int → Option V) (id : Int) (o k m u : Nat) (h : Cz B L w c cl n A) (hid : (KL id).wf = true) (hcl : cl < 18446744073709551616) (hok : o * k < 18446744073709551616) (hm0 : 0 < m) (hm1 : m < 18446744073709551616) (hu : u = cl * m + o * k) (hu64 : u < 18446744073709551616) (hn : n < 1073741823) (n' : Nat) (hn' : n' = if (A id).isSome then n else n + 1) :
    Calls Try.prog 26 #[.pointer (some ⟨c, 0, none⟩), .int .i64 id, .int .u64 (o : Int), .int .u64 (k : Int), .int .u64 (m : Int)] w fun e w' => e = .returned (.bool true) ∧ Cz B L w' c cl n' (updZ A id (some (u, m, id))) ∧ Stp B L w w' := by
  refine (w_set w c cl n A id o k m u h.cq hid hcl hok hm0 hm1 hu hu64 hn n' hn' h.fresh).mono ?_
  rintro e w' ⟨rfl, h1, h2⟩
  exact ⟨rfl, h.next h1 h2, h2⟩
theorem z_drop {B : Nat} {L : List Nat} (w : World) (c cl n : Nat) (A : Int → Option V) (k : Int) (v : V) (h : Cz B L w c cl n A) (hA : A k = some v) (hn : n < 1073741824) (n1 : Nat) (hn1 : n = n1 + 1) :
    Calls Try.prog 23 #[.pointer (some ⟨c, 0, none⟩), .int .i64 k] w fun e w' => e = .returned (.bool true) ∧ Cz B L w' c cl n1 (updZ A k none) ∧ Stp B L w w' := by
  refine (w_drop w c cl n A k v h.cq hA hn n1 hn1 h.fresh).mono ?_
  rintro e w' ⟨rfl, h1, h2⟩
  exact ⟨rfl, h.next h1 h2, h2⟩
theorem z_drop0 {B : Nat} {L : List Nat} (w : World) (c cl n : Nat) (A : Int → Option V) (k : Int) (h : Cz B L w c cl n A) (hk : (KL k).wf = true) (hA : A k = none) :
    Calls Try.prog 23 #[.pointer (some ⟨c, 0, none⟩), .int .i64 k] w fun e w' => e = .returned (.bool false) ∧ Cz B L w' c cl n A ∧ Stp B L w w' := by
  refine (w_drop0 w c cl n A k h.cq hk hA h.fresh).mono ?_
  rintro e w' ⟨rfl, h1, h2⟩
  exact ⟨rfl, h.next h1 h2, h2⟩
theorem z_len {B : Nat} {L : List Nat} (w : World) (c cl n : Nat) (A : Int → Option V) (h : Cz B L w c cl n A) :
    Calls Try.prog 28 #[.pointer (some ⟨c, 0, none⟩)] w fun e w' => e = .returned (.int .i64 (n : Int)) ∧ Cz B L w' c cl n A ∧ Stp B L w w' := by
  refine (w_len w c cl n A h.cq h.fresh).mono ?_
  rintro e w' ⟨rfl, h1, h2⟩
  exact ⟨rfl, h.next h1 h2, h2⟩
theorem z_worth {B : Nat} {L : List Nat} (w : World) (c cl n : Nat) (A : Int → Option V) (h : Cz B L w c cl n A) (id : Int) (p q : Nat) (d : Int) (hv : A id = some (p, q, d)) (hn : n < 1073741824) :
    Calls Try.prog 30 #[.pointer (some ⟨c, 0, none⟩), .int .i64 id] w fun e w' => e = .returned (.tuple #[.agg #[.int .u64 (p : Int), .int .u64 (q : Int)], .bool true]) ∧ Cz B L w' c cl n A ∧ Stp B L w w' := by
  refine (w_worth w c cl n A h.cq id (h.cq.ids hv).2.2.1 p q d true (Or.inl ⟨hv, rfl⟩) hn h.fresh).mono ?_
  rintro e w' ⟨rfl, h1, h2⟩
  exact ⟨rfl, h.next h1 h2, h2⟩
theorem z_worth0 {B : Nat} {L : List Nat} (w : World) (c cl n : Nat) (A : Int → Option V) (h : Cz B L w c cl n A) (id : Int) (hid : (KL id).wf = true) (hv : A id = none) (hn : n < 1073741824) :
    Calls Try.prog 30 #[.pointer (some ⟨c, 0, none⟩), .int .i64 id] w fun e w' => e = .returned (.tuple #[.agg #[.int .u64 0, .int .u64 0], .bool false]) ∧ Cz B L w' c cl n A ∧ Stp B L w w' := by
  refine (w_worth w c cl n A h.cq id hid 0 0 0 false (Or.inr ⟨hv, rfl, rfl, rfl, rfl⟩) hn h.fresh).mono ?_
  rintro e w' ⟨rfl, h1, h2⟩
  exact ⟨rfl, h.next h1 h2, h2⟩
theorem z_evict {B : Nat} {L : List Nat} (w : World) (c cl n : Nat) (A : Int → Option V) (h : Cz B L w c cl n A) (n1 : Nat) (hn1 : n = n1 + 1) (hn2 : n < 1073741824) :
    Calls Try.prog 25 #[.pointer (some ⟨c, 0, none⟩)] w fun e w' => ∃ (id : Int) (v : V), e = .returned (.tuple #[.int .i64 id, .bool true]) ∧ A id = some v ∧ (∀ k' v', A k' = some v' → lt v' v = false) ∧ Cz B L w' c (max cl (v.1 / v.2.1)) n1 (updZ A id none) ∧ Stp B L w w' := by
  refine (w_evict w c cl n A h.cq n1 hn1 hn2 h.fresh).mono ?_
  rintro e w' ⟨id, v, rfl, h0, h0', h1, h2⟩
  exact ⟨id, v, rfl, h0, h0', h.next h1 h2, h2⟩
theorem z_evict0 {B : Nat} {L : List Nat} (w : World) (c cl : Nat) (A : Int → Option V) (h : Cz B L w c cl 0 A) :
    Calls Try.prog 25 #[.pointer (some ⟨c, 0, none⟩)] w fun e w' => e = .returned (.tuple #[.int .i64 0, .bool false]) ∧ Cz B L w' c cl 0 A ∧ Stp B L w w' := by
  refine (w_evict0 w c cl A h.cq h.fresh).mono ?_
  rintro e w' ⟨rfl, h1, h2⟩
  exact ⟨rfl, h.next h1 h2, h2⟩
theorem z_least {B : Nat} {L : List Nat} (w : World) (c cl n : Nat) (A : Int → Option V) (h : Cz B L w c cl n A) (hn : 0 < n) (hn2 : n < 1073741824) :
    Calls Try.prog 27 #[.pointer (some ⟨c, 0, none⟩)] w fun e w' => ∃ (id : Int) (v : V), e = .returned (.tuple #[.int .i64 id, .bool true]) ∧ A id = some v ∧ (∀ k' v', A k' = some v' → lt v' v = false) ∧ Cz B L w' c cl n A ∧ Stp B L w w' := by
  refine (w_least w c cl n A h.cq hn hn2 h.fresh).mono ?_
  rintro e w' ⟨id, v, rfl, h0, h0', h1, h2⟩
  exact ⟨id, v, rfl, h0, h0', h.next h1 h2, h2⟩
theorem z_least0 {B : Nat} {L : List Nat} (w : World) (c cl : Nat) (A : Int → Option V) (h : Cz B L w c cl 0 A) :
    Calls Try.prog 27 #[.pointer (some ⟨c, 0, none⟩)] w fun e w' => e = .returned (.tuple #[.int .i64 0, .bool false]) ∧ Cz B L w' c cl 0 A ∧ Stp B L w w' := by
  refine (w_least0 w c cl A h.cq h.fresh).mono ?_
  rintro e w' ⟨rfl, h1, h2⟩
  exact ⟨rfl, h.next h1 h2, h2⟩
/-- A new cache, from B on. -/
theorem z_new {B : Nat} (w : World) (hB : B ≤ w.heap.size) : Calls Try.prog 22 #[] w fun e w' => e = .returned (.pointer (some ⟨w.heap.size, 0, none⟩)) ∧ Cz B [] w' w.heap.size 0 0 (fun _ => none) ∧ Below w.heap.size w w' := by
  refine (w_new w).mono ?_
  rintro e w' ⟨rfl, h1, h2⟩
  exact ⟨rfl, ⟨h1.mono (fun j q => ⟨by omega, List.not_mem_nil⟩), fun q hq => absurd hq List.not_mem_nil, Nat.le_trans hB h2.size⟩, h2⟩

set_option maxRecDepth 100000 in
set_option maxHeartbeats 1600000 in
theorem head9 (w : World) : Calls Try.prog 21 #[] w fun e w' => e = .returned (.bool true) ∧ Below w.heap.size w w' := by
  go_enter Try.func21, Try.ntmps21
  go_wp2_with fail
  refine (z_new (B := w.heap.size) w (Nat.le_refl _)).mono ?_
  rintro e w1 ⟨rfl, h1, b1⟩
  go_wp2_with fail
  refine (z_set w1 _ 0 0 _ 1 2 10 4 20 h1 (by decide) (by decide) (by decide) (by decide) (by decide) rfl (by decide) (by decide) 1 rfl).mono ?_
  rintro e w2 ⟨rfl, h2, s2⟩
  have b2 := b1.trans (s2.bel h1.sz)
  go_wp2_with fail
  refine (z_set w2 _ 0 1 _ 2 1 10 1 10 h2 (by decide) (by decide) (by decide) (by decide) (by decide) rfl (by decide) (by decide) 2 rfl).mono ?_
  rintro e w3 ⟨rfl, h3, s3⟩
  have b3 := b2.trans (s3.bel h2.sz)
  go_wp2_with fail
  refine (z_evict w3 _ 0 2 _ h3 1 rfl (by decide)).mono ?_
  rintro e w4 ⟨id, v, rfl, hA, hmin, h4, s4⟩
  have b4 := b3.trans (s4.bel h3.sz)
  have hiv : id = 1 ∧ v = (20, 4, 1) := by
    have h12 := hmin 1 (20, 4, 1) rfl
    unfold updZ at hA
    split at hA
    · cases hA; exact absurd h12 (by decide)
    · split at hA
      · rename_i q; cases hA; exact ⟨q, rfl⟩
      · cases hA
  obtain ⟨rfl, rfl⟩ := hiv
  have h5 : Cz w.heap.size [] w4 w.heap.size 5 1 _ := h4
  go_wp2_with fail
  refine (w_clock w4 _ 5 1 _ h5.cq).mono ?_
  rintro e w5 ⟨rfl, rfl⟩
  go_wp2_with fail
  refine (z_len w4 _ 5 1 _ h5).mono ?_
  rintro e w6 ⟨rfl, h6, s6⟩
  go_wp2_with fail
  go_ret
  exact ⟨rfl, b4.trans (s6.bel h5.sz)⟩
end Go.Proofs.Ytpagleilaaljoaa.W.HR
