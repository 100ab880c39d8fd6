/- The law HeapActs: its walk. -/
import Derived.Test.YtpagleilaaljoaaHpIK
import Derived.Test.YtpagleilaaljoaaActs
import Derived.Deep.DeepCutAuto
import Derived.Deep.CutBlock
namespace Go.Proofs.Ytpagleilaaljoaa.W.HI
open Go.RowKit

abbrev MV (A : Int → Option Int) : Int → Option Value := fun z => (A z).map (fun v : Int => Value.int .i64 v)
theorem MV_set (A : Int → Option Int) (k v : Int) : MV (updZ A k (some v)) = updZ (MV A) k (some (.int .i64 v)) := by funext z; unfold MV updZ; split <;> rfl
theorem MV_del (A : Int → Option Int) (k : Int) : MV (updZ A k none) = updZ (MV A) k none := by funext z; unfold MV updZ; split <;> rfl

/-- A heap and a map that hold the same. -/
structure Hm (B : Nat) (w : World) (r mb n : Nat) (A : Int → Option Int) : Prop where
  hq : Hq (fun j => B ≤ j ∧ j ≠ mb) w r n A
  mp : Mp Try.prog 3 w mb (MV A) n
  lo : B ≤ mb
  sz : B ≤ w.heap.size
theorem Hm.below {B : Nat} {w w' : World} {r mb n : Nat} {A : Int → Option Int} (h : Hm B w r mb n A) (hb : Below w.heap.size w w') : Hm B w' r mb n A :=
  ⟨h.hq.below hb, h.mp.kept (Only.of_below (S := fun _ => False) hb) (fun q => q), h.lo, Nat.le_trans h.sz hb.size⟩
theorem Hm.alloc {B : Nat} {w : World} {r mb n : Nat} {A : Int → Option Int} (h : Hm B w r mb n A) (o : Obj) : Hm B (w.alloc o) r mb n A := h.below ((Below.refl _ _).alloc (Nat.le_refl _) _)

theorem Hm.mn {B : Nat} {w : World} {r mb n : Nat} {A : Int → Option Int} (h : Hm B w r mb n A) (hn : 0 < n) (hn2 : n < 1073741824) :
    Calls Try.prog 16 #[.pointer (some ⟨r, 0, none⟩)] w fun e w' => ∃ k v : Int, e = .returned (.tuple #[.int .i64 k, .int .i64 v, .bool true]) ∧ A k = some v ∧ (∀ k' v', A k' = some v' → v ≤ v') ∧ (KL k).wf = true ∧ Hm B w' r mb n A ∧ Below w.heap.size w w' := by
  refine (q_min w r n A h.hq hn hn2).mono ?_
  rintro e w' ⟨k, v, rfl, h1, h2, h3, _, h5⟩
  exact ⟨k, v, rfl, h1, h2, h3, h.below h5, h5⟩

theorem Hq.zero {P : Nat → Prop} {w : World} {r : Nat} {A : Int → Option V} (h : Hq P w r 0 A) (k : Int) : A k = none := by
  obtain ⟨X, h1, _⟩ := h; exact h1.zero k
theorem q_get {P : Nat → Prop} (w : World) (r n : Nat) (A : Int → Option V) (k v : Int) (h : Hq P w r n A) (hk : (KL k).wf = true) (hA : A k = some v) (hn : n < 1073741824) :
    Calls Try.prog 19 #[.pointer (some ⟨r, 0, none⟩), .int .i64 k] w fun e w' => e = .returned (.tuple #[.int .i64 v, .bool true]) ∧ w = w' := by
  obtain ⟨X, h1, _⟩ := h
  exact get_some r _ n A X w h1 k hk v hA hn
theorem q_get0 {P : Nat → Prop} (w : World) (r n : Nat) (A : Int → Option V) (k : Int) (h : Hq P w r n A) (hk : (KL k).wf = true) (hA : A k = none) :
    Calls Try.prog 19 #[.pointer (some ⟨r, 0, none⟩), .int .i64 k] w fun e w' => e = .returned (.tuple #[.int .i64 0, .bool false]) ∧ w = w' := by
  obtain ⟨X, h1, _⟩ := h
  exact get_none r _ n A X w h1 k hk hA

/-- A heap and a map, while they turn, and a block that lies beside. -/
structure Hx (B : Nat) (w : World) (r mb q n nm : Nat) (A Am : Int → Option Int) (cs : List Value) : Prop where
  hq : Hq (fun j => B ≤ j ∧ j ≠ mb ∧ j ≠ q) w r n A
  mp : Mp Try.prog 3 w mb (MV Am) nm
  lo : B ≤ mb
  loq : B ≤ q
  ne : mb ≠ q
  sz : B ≤ w.heap.size
  bx : w.heap[q]? = some (.cells cs.toArray 29 (0, 0))
theorem Hm.box {B : Nat} {w : World} {r mb n : Nat} {A : Int → Option Int} (h : Hm B w r mb n A) (cs : List Value) : Hx B (w.alloc (.cells cs.toArray 29)) r mb w.heap.size n n A A cs := by
  have h1 := h.alloc (.cells cs.toArray 29)
  have h2 := h.hq.tight.below ((Below.refl w.heap.size w).alloc (Nat.le_refl _) (.cells cs.toArray 29))
  have := h.mp.lt
  exact ⟨h2.mono (fun _ q => ⟨q.1.1, q.1.2, by omega⟩), h1.mp, h.lo, h.sz, by omega, h1.sz, heap_alloc_new _ _⟩
theorem Hx.unbox {B : Nat} {w : World} {r mb q n : Nat} {A : Int → Option Int} {cs : List Value} (h : Hx B w r mb q n n A A cs) : Hm B w r mb n A :=
  ⟨h.hq.mono (fun _ q => ⟨q.1, q.2.1⟩), h.mp, h.lo, h.sz⟩
theorem Hx.below {B : Nat} {w w' : World} {r mb q n nm : Nat} {A Am : Int → Option Int} {cs : List Value} (h : Hx B w r mb q n nm A Am cs) (hb : Below w.heap.size w w') : Hx B w' r mb q n nm A Am cs :=
  ⟨h.hq.below hb, h.mp.kept (Only.of_below (S := fun _ => False) hb) (fun q => q), h.lo, h.loq, h.ne, Nat.le_trans h.sz hb.size, (Only.of_below (S := fun _ => False) hb).blk (fun q => q) h.bx⟩
theorem Hx.fresh {B : Nat} {w : World} {r mb q n nm : Nat} {A Am : Int → Option Int} {cs : List Value} (h : Hx B w r mb q n nm A Am cs) : ∀ j, w.heap.size ≤ j → (fun j => B ≤ j ∧ j ≠ mb ∧ j ≠ q) j := by
  intro j hj
  have h1 := h.mp.lt
  have h2 := lt_of_row h.bx
  have h3 := h.sz
  exact ⟨by omega, by omega, by omega⟩
theorem Hx.only {B : Nat} {w w' : World} {r mb q n nm n' : Nat} {A Am A' : Int → Option Int} {cs : List Value} (h : Hx B w r mb q n nm A Am cs) (ho : Only w w' (fun j => B ≤ j ∧ j ≠ mb ∧ j ≠ q)) (hq' : Hq (fun j => B ≤ j ∧ j ≠ mb ∧ j ≠ q) w' r n' A') : Hx B w' r mb q n' nm A' Am cs ∧ Below B w w' :=
  ⟨⟨hq', h.mp.kept ho (fun q => q.2.1 rfl), h.lo, h.loq, h.ne, Nat.le_trans h.sz ho.size, ho.blk (fun q => q.2.2 rfl) h.bx⟩, ho.below (fun _ q => q.1) h.sz⟩
theorem x_set {B : Nat} (w : World) (r mb q n nm : Nat) (A Am : Int → Option Int) (cs : List Value) (k v : Int) (h : Hx B w r mb q n nm A Am cs) (hk : (KL k).wf = true) (hv : (KL v).wf = true) (hn : n < 1073741823) (n' : Nat) (hn' : n' = if (A k).isSome then n else n + 1) :
    Calls Try.prog 17 #[.pointer (some ⟨r, 0, none⟩), .int .i64 k, .int .i64 v] w fun e w' => e = .returned (.tuple #[]) ∧ Hx B w' r mb q n' nm (updZ A k (some v)) Am cs ∧ Below B w w' := by
  refine (q_set w r n A k v h.hq hk hv hn n' hn' h.fresh).mono ?_
  rintro e w' ⟨rfl, h1, h2⟩
  exact ⟨rfl, h.only h2 h1⟩
theorem x_drop {B : Nat} (w : World) (r mb q n nm : Nat) (A Am : Int → Option Int) (cs : List Value) (k v : Int) (h : Hx B w r mb q n nm A Am cs) (hA : A k = some v) (hn : n < 1073741824) (n1 : Nat) (hn1 : n = n1 + 1) :
    Calls Try.prog 15 #[.pointer (some ⟨r, 0, none⟩), .int .i64 k] w fun e w' => e = .returned (.bool true) ∧ Hx B w' r mb q n1 nm (updZ A k none) Am cs ∧ Below B w w' := by
  refine (q_drop w r n A k v h.hq hA hn n1 hn1 h.fresh).mono ?_
  rintro e w' ⟨rfl, h1, h2⟩
  exact ⟨rfl, h.only h2 h1⟩
theorem Hx.turned {B : Nat} {w w' : World} {r mb q n nm nm' : Nat} {A Am Am' : Int → Option Int} {cs : List Value} (h : Hx B w r mb q n nm A Am cs) (hg : w.grownBy w' (some mb)) (hm : Mp Try.prog 3 w' mb (MV Am') nm') : Hx B w' r mb q n nm' A Am' cs ∧ Below B w w' := by
  have ho : Only w w' (fun j => j = mb) := Only.grown hg (Or.inl rfl)
  exact ⟨⟨h.hq.kept ho (fun j q e => q.2.1 e), hm, h.lo, h.loq, h.ne, Nat.le_trans h.sz ho.size, ho.blk (fun q => h.ne q.symm) h.bx⟩, ho.below (fun j q => by rw [q]; exact h.lo) h.sz⟩
theorem updZ_gone {α : Type} (A : Int → Option α) (k : Int) (h : A k = none) : updZ A k none = A := by
  funext j; unfold updZ; split
  · rename_i e; rw [e, h]
  · rfl

set_option maxRecDepth 100000 in
set_option maxHeartbeats 3200000 in
theorem acts_walk (a0 : Option Addr) (k cap : Nat) (Z : Nat → Int) (_hc : k ≤ cap) (w : World) (L : Lies w w.heap.size a0 (zs Z (k * 3))) (wf : ∀ j, j < k * 3 → (Lit.int .i64 (Z j)).wf = true) :
    Calls Try.prog 3 #[.slice a0 k cap] w fun e w' => e = .returned (.bool true) ∧ Below w.heap.size w w' := by
  by_cases hk : 120 < k
  · have hki : decide ((120 : Int) < (k : Int)) = true := by simp; omega
    go_enter Try.func3, Try.ntmps3
    go_wp2_with fail
    refine (head8 _).mono ?_
    rintro e w1 ⟨rfl, b1⟩
    go_wp2_with fail
    go_ret
    exact ⟨rfl, b1⟩
  · have hki : decide ((120 : Int) < (k : Int)) = false := by simp; omega
    have hmm := @run_makeMap Try.prog
    go_enter Try.func3, Try.ntmps3
    go_wp2_with fail
    refine (head8 _).mono ?_
    rintro e w1 ⟨rfl, b1⟩
    go_wp2_with fail
    refine (q_new w1).mono ?_
    rintro e w2 ⟨rfl, h2, b2⟩
    obtain ⟨r, hr⟩ : ∃ r, w1.heap.size = r := ⟨_, rfl⟩
    obtain ⟨mb, hmb⟩ : ∃ mb, w2.heap.size = mb := ⟨_, rfl⟩
    have b3 : Below w.heap.size w (w2.alloc (.map #[] 0)) := (b1.trans (b2.mono b1.size)).trans (((Below.refl _ _).alloc (Nat.le_refl _) _).mono (b1.trans (b2.mono b1.size)).size)
    have h3 : Hm w.heap.size (w2.alloc (.map #[] 0)) r mb 0 (fun _ => none) := by
      have := b1.size
      have h2l := h2.tight
      rw [hr] at h2l
      refine ⟨(h2l.below ((Below.refl _ _).alloc (Nat.le_refl _) _)).mono (fun j q => ⟨by omega, by omega⟩), ?_, by rw [← hmb]; exact (b1.trans (b2.mono b1.size)).size, b3.size⟩
      rw [← hmb]; exact Mp.made _ _ _
    rw [hr]
    clear h2 b1 b2 hr
    go_wp2_with fail
    clear hmb hki
    generalize w2.alloc (.map #[] 0) = w3 at h3 b3 ⊢
    go_loopg [34] k (fun gk vi wr => ∃ (i n : Nat) (A : Int → Option Int), vi = .int .i64 (i : Int) ∧ i + gk = k ∧ Hm w.heap.size wr r mb n A ∧ n ≤ i ∧ Below w.heap.size w wr)
    case atStart => exact ⟨0, 0, _, rfl, by omega, h3, by omega, b3⟩
    case round =>
      clear h3 b3
      obtain ⟨i, n, A, rfl, hik, hz, hni, bz⟩ := hrel
      have HIK := Lib.hid hik
      by_cases hi : i < k
      · obtain ⟨ad, ha, hab, hcell⟩ := (L.below bz (Nat.le_refl _)).num (j := i * 3) (by omega)
        have hii : (i : Int) < (k : Int) := by omega
        have x0 := hcell (i * 3) (by omega)
        have x1 := cell_in (c := 0) (hcell (i * 3 + 1) (by omega))
        have x2 := cell_in (c := 1) (hcell (i * 3 + 2) (by omega))
        rw [Nat.zero_add] at x1
        rw [show (1 : Nat) + 1 = 2 from rfl] at x2
        have wk := wf (i * 3 + 1) (by omega)
        have wv := wf (i * 3 + 2) (by omega)
        obtain ⟨zk, hzk⟩ : ∃ z, Z (i * 3 + 1) = z := ⟨_, rfl⟩
        obtain ⟨zv, hzv⟩ : ∃ z, Z (i * 3 + 2) = z := ⟨_, rfl⟩
        obtain ⟨zd, hzd⟩ : ∃ z, Z (i * 3) = z := ⟨_, rfl⟩
        rw [hzd] at x0
        rw [hzk] at x1 wk
        rw [hzv] at x2 wv
        have HA := Lib.hid ha
        subst ha
        clear hcell hik hzk hzv hzd HA
        obtain ⟨kd, hkd, hkd4⟩ := and_nat zd 3 2 4 (by decide) (by decide) (by decide)
        have hx := hz.box [.int .i64 zd, .int .i64 zk, .int .i64 zv]
        have bx : Below w.heap.size w (wr.alloc (.cells [.int .i64 zd, .int .i64 zk, .int .i64 zv].toArray 29)) := bz.trans (((Below.refl wr.heap.size wr).alloc (Nat.le_refl _) _).mono bz.size)
        have hPos := fun q : 0 < n => q
        clear hPos
        go_upto_block 2 with (fail)
        clear x0 x1 x2 hkd hz bz
        obtain ⟨qb, hqb⟩ : ∃ q, wr.heap.size = q := ⟨_, rfl⟩
        rw [hqb] at hx
        rw [hqb]
        clear hqb
        generalize wr.alloc (.cells #[.int .i64 zd, .int .i64 zk, .int .i64 zv] 29) = w4 at hx bx ⊢
        have y1 := cell_of_row _ _ 1 _ _ _ hx.bx
        have y2 := cell_of_row _ _ 2 _ _ _ hx.bx
        go_cut [] (fun wc => ∃ (n' : Nat) (A' : Int → Option Int), Hm w.heap.size wc r mb n' A' ∧ n' ≤ i + 1 ∧ Below w.heap.size w wc)
        case first =>
          have hkk : kd = 2 ∨ kd = 3 ∨ kd < 2 := by omega
          rcases hkk with rfl | rfl | hkk
          · -- drop
            cases hA : A zk with
            | none =>
              have HA := Lib.hid hA
              clear hA
              have hup := updZ_gone A zk HA.out
              have HUP := Lib.hid hup
              clear hup
              go_wp2_with (at_lookup; refine wpList_mp_none rfl (.tmp 55) (.tmp 57) 27 rfl 3 3 Try.underlying3 Try.underlying27 (zeroI _) mb _ n rfl hx.mp zk rfl wk (by simp [HA.out]) ?_)
              refine (q_drop0 _ r n A zk hx.hq wk HA.out).mono ?_
              rintro e w5 ⟨rfl, rfl⟩
              go_wp2_with (at_delete; refine wpList_mp_del rfl (.tmp 67) (.tmp 69) 27 3 rfl 3 Try.underlying3 Try.underlying27 mb _ n rfl hx.mp zk rfl wk n (by simp [HA.out]) ?_; intro w5 hm5 hg5)
              rw [← MV_del, HUP.out] at hm5
              obtain ⟨hx5, bx5⟩ := hx.turned hg5 hm5
              go_meet
              exact ⟨n, A, hx5.unbox, by omega, bx.trans bx5⟩
            | some u =>
              have HA := Lib.hid hA
              have hpos := hx.hq
              clear hA
              have hn1 : ∃ n1, n = n1 + 1 := by
                obtain ⟨X, hX, _⟩ := hpos
                have := hX.pos HA.out
                exact ⟨n - 1, by omega⟩
              obtain ⟨n1, hn1⟩ := hn1
              clear hpos
              have HN1 := Lib.hid hn1
              clear hn1
              go_wp2_with (at_lookup; refine wpList_mp_some rfl (.tmp 55) (.tmp 57) 27 rfl 3 3 Try.underlying3 Try.underlying27 (zeroI _) mb _ n rfl hx.mp zk rfl wk (.int .i64 u) (by simp [HA.out]) ?_)
              refine (x_drop _ r mb qb n n A A _ zk u hx HA.out (by omega) n1 HN1.out).mono ?_
              rintro e w5 ⟨rfl, hx5, bx5⟩
              clear y1 y2
              have y1 := cell_of_row _ _ 1 _ _ _ hx5.bx
              go_wp2_with (at_delete; refine wpList_mp_del rfl (.tmp 67) (.tmp 69) 27 3 rfl 3 Try.underlying3 Try.underlying27 mb _ n rfl hx5.mp zk rfl wk n1 (by simp [HA.out, HN1.out]) ?_; intro w6 hm6 hg6)
              rw [← MV_del] at hm6
              obtain ⟨hx6, bx6⟩ := hx5.turned hg6 hm6
              go_meet
              exact ⟨n1, _, hx6.unbox, by have := HN1.out; omega, bx.trans (bx5.trans bx6)⟩
          · -- take the least
            rcases Nat.eq_zero_or_pos n with hn0 | hn0
            · subst hn0
              go_wp2_with fail
              refine (q_min0 _ r A hx.hq).mono ?_
              rintro e w5 ⟨rfl, b5⟩
              have hx5 := hx.below b5
              have bx5 := bx.trans (b5.mono bx.size)
              go_wp2_with (at_len; refine wpList_mp_len rfl (.tmp 79) 27 rfl 3 3 Try.underlying27 mb _ 0 rfl hx5.mp ?_)
              go_meet
              exact ⟨0, A, hx5.unbox, by omega, bx5⟩
            · have hnd : decide ((0 : Int) < (n : Int)) = true := by simp; omega
              go_wp2_with fail
              refine (q_min _ r n A hx.hq hn0 (by omega)).mono ?_
              rintro e w5 ⟨kk, vv, rfl, hkv, hmin, hkw, _, b5⟩
              have hx5 := hx.below b5
              have bx5 := bx.trans (b5.mono bx.size)
              have HKV := Lib.hid hkv
              obtain ⟨n1, hn1⟩ : ∃ n1, n = n1 + 1 := ⟨n - 1, by omega⟩
              have HN1 := Lib.hid hn1
              clear hkv hn1 y1 y2
              go_wp2_with (first
                | (at_len; refine wpList_mp_len rfl (.tmp 79) 27 rfl 3 3 Try.underlying27 mb _ n rfl hx5.mp ?_)
                | (at_lookup; refine wpList_mp_some rfl (.tmp 85) (.tmp 86) 27 rfl 3 3 Try.underlying3 Try.underlying27 (zeroI _) mb _ n rfl hx5.mp kk rfl hkw (.int .i64 vv) (by simp [HKV.out]) ?_))
              refine (x_drop _ r mb qb n n A A _ kk vv hx5 HKV.out (by omega) n1 HN1.out).mono ?_
              rintro e w6 ⟨rfl, hx6, bx6⟩
              go_wp2_with (at_delete; refine wpList_mp_del rfl (.tmp 103) (.tmp 104) 27 3 rfl 3 Try.underlying3 Try.underlying27 mb _ n rfl hx6.mp kk rfl hkw n1 (by simp [HKV.out, HN1.out]) ?_; intro w7 hm7 hg7)
              rw [← MV_del] at hm7
              obtain ⟨hx7, bx7⟩ := hx6.turned hg7 hm7
              go_meet
              exact ⟨n1, _, hx7.unbox, by have := HN1.out; omega, bx5.trans (bx6.trans bx7)⟩
          · -- set
            have hk2 : ((kd : Int) == 2) = false := by simp; omega
            have hk3 : ((kd : Int) == 3) = false := by simp; omega
            obtain ⟨n', hn'⟩ : ∃ n', n' = if (A zk).isSome then n else n + 1 := ⟨_, rfl⟩
            have hn'' : n' ≤ n + 1 := by rw [hn']; split <;> omega
            have HN := Lib.hid hn'
            clear hn'
            go_wp2_with fail
            refine (x_set _ r mb qb n n A A _ zk zv hx wk wv (by omega) n' HN.out).mono ?_
            rintro e w5 ⟨rfl, hx5, bx5⟩
            clear y1 y2
            have y1 := cell_of_row _ _ 1 _ _ _ hx5.bx
            have y2 := cell_of_row _ _ 2 _ _ _ hx5.bx
            have hml : n < maxLen := by have : (1073741824 : Nat) < maxLen := by decide
                                        omega
            go_wp2_with (at_mapUpdate; refine wpList_mp_set rfl (.tmp 47) (.tmp 49) (.tmp 51) 27 rfl 3 3 Try.underlying3 Try.underlying27 mb _ n rfl hx5.mp hml zk rfl wk (.int .i64 zv) rfl n' (by rw [HN.out]; simp) ?_; intro w6 hm6 hg6)
            rw [← MV_set] at hm6
            obtain ⟨hx6, bx6⟩ := hx5.turned hg6 hm6
            go_meet
            exact ⟨n', _, hx6.unbox, by omega, bx.trans (bx5.trans bx6)⟩
        case rest =>
          clear hx bx y1 y2 wk wv hkd4 hni
          obtain ⟨n1, A1, h1, hn1, b1⟩ := hcut
          rcases Nat.eq_zero_or_pos n1 with hz | hz
          · subst hz
            go_wp2_with fail
            refine (q_min0 _ r A1 h1.hq).mono ?_
            rintro e w5 ⟨rfl, b5⟩
            have h5 := h1.below b5
            have b6 := b1.trans (b5.mono b1.size)
            clear h1 b1 b5
            go_wp2_with fail
            refine (q_len _ r 0 A1 h5.hq).mono ?_
            rintro e w6 ⟨rfl, rfl⟩
            go_wp2_with (first
              | (at_len; refine wpList_mp_len rfl (.tmp 113) 27 rfl 3 3 Try.underlying27 mb _ 0 rfl h5.mp ?_)
              | (at_len; refine wpList_unguard (by rfl) ?_; refine wpList_mp_len rfl (.tmp 118) 27 rfl 3 3 Try.underlying27 mb _ 0 rfl h5.mp ?_))
            go_loopg [137] k (fun gk vi wr => ∃ j : Nat, vi = .int .i64 (j : Int) ∧ j + gk = k ∧ Hm w.heap.size wr r mb 0 A1 ∧ Below w.heap.size w wr)
            case atStart => exact ⟨0, rfl, by omega, h5, b6⟩
            case round =>
              clear h5 b6
              obtain ⟨j, rfl, hjk, h5, b6⟩ := hrel
              have HJK := Lib.hid hjk
              by_cases hj : j < k
              · obtain ⟨ad', ha', hab', hcell⟩ := (L.below b6 (Nat.le_refl _)).num (j := j * 3) (by omega)
                injection ha' with ha'
                subst ha'
                have hji : (j : Int) < (k : Int) := by omega
                have x0 := hcell (j * 3) (by omega)
                have x1 := cell_in (c := 0) (hcell (j * 3 + 1) (by omega))
                have x2 := cell_in (c := 1) (hcell (j * 3 + 2) (by omega))
                rw [Nat.zero_add] at x1
                rw [show (1 : Nat) + 1 = 2 from rfl] at x2
                have wj := wf (j * 3 + 1) (by omega)
                obtain ⟨zj, hzj⟩ : ∃ z, Z (j * 3 + 1) = z := ⟨_, rfl⟩
                obtain ⟨zu, hzu⟩ : ∃ z, Z (j * 3 + 2) = z := ⟨_, rfl⟩
                obtain ⟨zt, hzt⟩ : ∃ z, Z (j * 3) = z := ⟨_, rfl⟩
                rw [hzt] at x0
                rw [hzj] at x1 wj
                rw [hzu] at x2
                clear hcell hjk hzj hzu hzt
                have h6 := h5.alloc (.cells #[.int .i64 zt, .int .i64 zj, .int .i64 zu] 29)
                have b7 : Below w.heap.size w (wr.alloc (.cells #[.int .i64 zt, .int .i64 zj, .int .i64 zu] 29)) := b6.trans (((Below.refl wr.heap.size wr).alloc (Nat.le_refl _) _).mono b6.size)
                cases hA : A1 zj with
                | none =>
                  have HA := Lib.hid hA
                  clear hA
                  go_wp2_with fail
                  refine (q_get0 _ r 0 A1 zj h6.hq wj HA.out).mono ?_
                  rintro e w8 ⟨rfl, rfl⟩
                  go_wp2_with (at_lookup; refine wpList_mp_none rfl (.tmp 149) (.tmp 151) 27 rfl 3 3 Try.underlying3 Try.underlying27 (zeroI _) mb _ 0 rfl h6.mp zj rfl wj (by simp [HA.out]) ?_)
                  go_roundg (gk - 1)
                  case measure => have := HJK.out; omega
                  case rel => exact ⟨j + 1, by go_num, by have := HJK.out; omega, h6, b7⟩
                | some u =>
                  rw [h5.hq.zero zj] at hA
                  cases hA
              · obtain rfl : j = k := by omega
                clear hjk HJK hj
                go_wp2_with (at_lookup; refine wpList_mp_none rfl (.tmp 173) (.tmp 174) 27 rfl 3 3 Try.underlying3 Try.underlying27 (zeroI _) mb _ 0 rfl h5.mp 0 rfl (by decide) (by have := h5.hq.zero 0; simp [this]) ?_)
                go_roundg (j - (i + 1))
                case measure => have := HIK.out; omega
                case rel => exact ⟨i + 1, 0, A1, by go_num, by omega, h5, by omega, b6⟩

          · have hnd : decide ((0 : Int) < (n1 : Int)) = true := by simp; omega
            go_wp2_with fail
            refine (h1.mn hz (by omega)).mono ?_
            rintro e w5 ⟨mk, mv, rfl, hkv, hmin, hkw, h5, b5⟩
            have b6 := b1.trans (b5.mono b1.size)
            have HKV := Lib.hid hkv
            have HMIN := Lib.hid hmin
            clear h1 b1 b5 hkv hmin
            go_wp2_with fail
            refine (q_len _ r n1 A1 h5.hq).mono ?_
            rintro e w6 ⟨rfl, rfl⟩
            go_wp2_with (first
              | (at_len; refine wpList_mp_len rfl (.tmp 113) 27 rfl 3 3 Try.underlying27 mb _ n1 rfl h5.mp ?_)
              | (at_len; refine wpList_unguard (by rfl) ?_; refine wpList_mp_len rfl (.tmp 118) 27 rfl 3 3 Try.underlying27 mb _ n1 rfl h5.mp ?_))
            go_loopg [137] k (fun gk vi wr => ∃ j : Nat, vi = .int .i64 (j : Int) ∧ j + gk = k ∧ Hm w.heap.size wr r mb n1 A1 ∧ Below w.heap.size w wr)
            case atStart => exact ⟨0, rfl, by omega, h5, b6⟩
            case round =>
              clear h5 b6
              obtain ⟨j, rfl, hjk, h5, b6⟩ := hrel
              have HJK := Lib.hid hjk
              by_cases hj : j < k
              · obtain ⟨ad', ha', hab', hcell⟩ := (L.below b6 (Nat.le_refl _)).num (j := j * 3) (by omega)
                injection ha' with ha'
                subst ha'
                have hji : (j : Int) < (k : Int) := by omega
                have x0 := hcell (j * 3) (by omega)
                have x1 := cell_in (c := 0) (hcell (j * 3 + 1) (by omega))
                have x2 := cell_in (c := 1) (hcell (j * 3 + 2) (by omega))
                rw [Nat.zero_add] at x1
                rw [show (1 : Nat) + 1 = 2 from rfl] at x2
                have wj := wf (j * 3 + 1) (by omega)
                obtain ⟨zj, hzj⟩ : ∃ z, Z (j * 3 + 1) = z := ⟨_, rfl⟩
                obtain ⟨zu, hzu⟩ : ∃ z, Z (j * 3 + 2) = z := ⟨_, rfl⟩
                obtain ⟨zt, hzt⟩ : ∃ z, Z (j * 3) = z := ⟨_, rfl⟩
                rw [hzt] at x0
                rw [hzj] at x1 wj
                rw [hzu] at x2
                clear hcell hjk hzj hzu hzt
                have h6 := h5.alloc (.cells #[.int .i64 zt, .int .i64 zj, .int .i64 zu] 29)
                have b7 : Below w.heap.size w (wr.alloc (.cells #[.int .i64 zt, .int .i64 zj, .int .i64 zu] 29)) := b6.trans (((Below.refl wr.heap.size wr).alloc (Nat.le_refl _) _).mono b6.size)
                cases hA : A1 zj with
                | none =>
                  have HA := Lib.hid hA
                  clear hA
                  go_wp2_with fail
                  refine (q_get0 _ r n1 A1 zj h6.hq wj HA.out).mono ?_
                  rintro e w8 ⟨rfl, rfl⟩
                  go_wp2_with (at_lookup; refine wpList_mp_none rfl (.tmp 149) (.tmp 151) 27 rfl 3 3 Try.underlying3 Try.underlying27 (zeroI _) mb _ n1 rfl h6.mp zj rfl wj (by simp [HA.out]) ?_)
                  go_roundg (gk - 1)
                  case measure => have := HJK.out; omega
                  case rel => exact ⟨j + 1, by go_num, by have := HJK.out; omega, h6, b7⟩
                | some u =>
                  have HA := Lib.hid hA
                  have hvu : decide (u < mv) = false := by have := HMIN.out _ _ hA; simp; omega
                  clear hA
                  go_wp2_with fail
                  refine (q_get _ r n1 A1 zj u h6.hq wj HA.out (by omega)).mono ?_
                  rintro e w8 ⟨rfl, rfl⟩
                  go_wp2_with (at_lookup; refine wpList_mp_some rfl (.tmp 149) (.tmp 151) 27 rfl 3 3 Try.underlying3 Try.underlying27 (zeroI _) mb _ n1 rfl h6.mp zj rfl wj (.int .i64 u) (by simp [HA.out]) ?_)
                  go_roundg (gk - 1)
                  case measure => have := HJK.out; omega
                  case rel => exact ⟨j + 1, by go_num, by have := HJK.out; omega, h6, b7⟩
              · obtain rfl : j = k := by omega
                clear hjk HJK hj
                go_wp2_with (at_lookup; refine wpList_mp_some rfl (.tmp 173) (.tmp 174) 27 rfl 3 3 Try.underlying3 Try.underlying27 (zeroI _) mb _ n1 rfl h5.mp mk rfl hkw (.int .i64 mv) (by simp [HKV.out]) ?_)
                go_roundg (j - (i + 1))
                case measure => have := HIK.out; omega
                case rel => exact ⟨i + 1, n1, A1, by go_num, by omega, h5, by omega, b6⟩

      · obtain rfl : i = k := by omega
        clear hik HIK hi
        go_wp2_with fail
        go_ret
        exact ⟨rfl, bz⟩
end Go.Proofs.Ytpagleilaaljoaa.W.HI
