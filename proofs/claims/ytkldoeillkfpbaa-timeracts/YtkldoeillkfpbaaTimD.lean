/- Package timer: contracts that name the blocks; Due. -/
import Derived.Test.YtkldoeillkfpbaaTimC
namespace Go.Proofs.Ytkldoeillkfpbaa.W.HT
open Go.RowKit

/-- Timers in block c, just in blocks of X, all of which there are. -/
def Tx (w : World) (c n : Nat) (A : K → Option Int) (X : Nat → Prop) : Prop := Tq X w c n A ∧ ∀ j, X j → j < w.heap.size
theorem Tx.big {w : World} {c n : Nat} {A : K → Option Int} {X : Nat → Prop} (h : Tx w c n A X) : Tq (fun j => X j ∨ w.heap.size ≤ j) w c n A := h.1.mono (fun _ q => Or.inl q)
theorem Only.old {w w' : World} {X : Nat → Prop} (h : Only w w' (fun j => X j ∨ w.heap.size ≤ j)) : Only w w' X :=
  ⟨h.os, h.tape, h.output, h.size, fun k hk hn => h.block k hk (fun q => q.elim hn (fun q => by omega))⟩
theorem Tx.next {w w' : World} {c n n' : Nat} {A A' : K → Option Int} {X : Nat → Prop} (_h : Tx w c n A X) (h1 : Tq (fun j => X j ∨ w.heap.size ≤ j) w' c n' A') (h2 : Only w w' (fun j => X j ∨ w.heap.size ≤ j)) :
    ∃ X', Tx w' c n' A' X' ∧ (∀ j, X' j → X j ∨ w.heap.size ≤ j) ∧ Only w w' X :=
  ⟨_, ⟨h1.tight, fun _ q => q.2⟩, fun _ q => q.1, Only.old h2⟩
theorem Tx.kept {w w' : World} {c n : Nat} {A : K → Option Int} {X S : Nat → Prop} (h : Tx w c n A X) (ho : Only w w' S) (hd : ∀ j, X j → ¬ S j) : Tx w' c n A X := ⟨h.1.kept ho hd, fun j q => Nat.lt_of_lt_of_le (h.2 j q) ho.size⟩
theorem Tx.box {w : World} {c n : Nat} {A : K → Option Int} {X : Nat → Prop} (h : Tx w c n A X) (o : Obj) : Tx (w.alloc o) c n A X := h.kept ((Only.refl w (fun _ => False)).alloc o) (fun _ _ q => q)
theorem Tx.drewN {w : World} {c n : Nat} {A : K → Option Int} {X : Nat → Prop} (h : Tx w c n A X) (m : Nat) : Tx (w.drewN m) c n A X := h.kept ((Only.refl w (fun _ => False)).drewN m) (fun _ _ q => q)
theorem Tx.below {w w' : World} {c n : Nat} {A : K → Option Int} {X : Nat → Prop} (h : Tx w c n A X) (hb : Below w.heap.size w w') : Tx w' c n A X := h.kept (Only.of_below (S := fun _ => False) hb) (fun _ _ q => q)
theorem Tx.new {w : World} {c n : Nat} {A : K → Option Int} {X : Nat → Prop} (h : Tx w c n A X) {j : Nat} (hj : w.heap.size ≤ j) : ¬ X j := fun q => by have := h.2 j q; omega
theorem big_new (X : Nat → Prop) (w : World) : ∀ j, w.heap.size ≤ j → (fun j => X j ∨ w.heap.size ≤ j) j := fun _ q => Or.inr q

theorem x_len (w : World) (c n : Nat) (A : K → Option Int) (X : Nat → Prop)  (h : Tx w c n A X) :
    Calls Try.prog 17 #[.pointer (some ⟨c, 0, none⟩)] w fun e w' => e = .returned (.int .i64 (n : Int)) ∧ ∃ X', Tx w' c n A X' ∧ (∀ j, X' j → X j ∨ w.heap.size ≤ j) ∧ Only w w' X := by
  refine (t_len w c n A h.big (big_new X w)).mono ?_
  rintro e w' ⟨rfl, h1, h2⟩
  exact ⟨rfl, h.next h1 h2⟩
theorem x_set (w : World) (c n : Nat) (A : K → Option Int) (X : Nat → Prop) (k : K) (t : Int) (hk : kw k) (ht : (Lit.int .i64 t).wf = true) (hn : n < 1073741823) (n' : Nat) (hn' : n' = if (A k).isSome then n else n + 1) (h : Tx w c n A X) :
    Calls Try.prog 16 #[.pointer (some ⟨c, 0, none⟩), kv k, .int .i64 t] w fun e w' => e = .returned (.tuple #[]) ∧ ∃ X', Tx w' c n' (updZ A k (some t)) X' ∧ (∀ j, X' j → X j ∨ w.heap.size ≤ j) ∧ Only w w' X := by
  refine (t_set w c n A k t h.big hk ht hn n' hn' (big_new X w)).mono ?_
  rintro e w' ⟨rfl, h1, h2⟩
  exact ⟨rfl, h.next h1 h2⟩
theorem x_drop0 (w : World) (c n : Nat) (A : K → Option Int) (X : Nat → Prop) (k : K) (hk : kw k) (hA : A k = none) (h : Tx w c n A X) :
    Calls Try.prog 12 #[.pointer (some ⟨c, 0, none⟩), kv k] w fun e w' => e = .returned (.bool false) ∧ ∃ X', Tx w' c n A X' ∧ (∀ j, X' j → X j ∨ w.heap.size ≤ j) ∧ Only w w' X := by
  refine (t_drop0 w c n A k h.big hk hA (big_new X w)).mono ?_
  rintro e w' ⟨rfl, h1, h2⟩
  exact ⟨rfl, h.next h1 h2⟩
theorem x_drop (w : World) (c n : Nat) (A : K → Option Int) (X : Nat → Prop) (k : K) (t : Int) (hA : A k = some t) (hn : n < 1073741824) (n1 : Nat) (hn1 : n = n1 + 1) (h : Tx w c n A X) :
    Calls Try.prog 12 #[.pointer (some ⟨c, 0, none⟩), kv k] w fun e w' => e = .returned (.bool true) ∧ ∃ X', Tx w' c n1 (updZ A k none) X' ∧ (∀ j, X' j → X j ∨ w.heap.size ≤ j) ∧ Only w w' X := by
  refine (t_drop w c n A k t h.big hA hn n1 hn1 (big_new X w)).mono ?_
  rintro e w' ⟨rfl, h1, h2⟩
  exact ⟨rfl, h.next h1 h2⟩
theorem x_at (w : World) (c n : Nat) (A : K → Option Int) (X : Nat → Prop) (k : K) (hk : kw k) (hn : n < 1073741824) (h : Tx w c n A X) :
    Calls Try.prog 18 #[.pointer (some ⟨c, 0, none⟩), kv k] w fun e w' => e = .returned (.tuple #[.int .i64 ((A k).getD 0), .bool (A k).isSome]) ∧ ∃ X', Tx w' c n A X' ∧ (∀ j, X' j → X j ∨ w.heap.size ≤ j) ∧ Only w w' X := by
  refine (t_at w c n A k h.big hk hn (big_new X w)).mono ?_
  rintro e w' ⟨rfl, h1, h2⟩
  exact ⟨rfl, h.next h1 h2⟩
theorem x_next0 (w : World) (c n : Nat) (A : K → Option Int) (X : Nat → Prop) (now : Int) (hn : n < 1073741824) (h0 : ∀ k t, A k = some t → now < t) (h : Tx w c n A X) :
    Calls Try.prog 14 #[.pointer (some ⟨c, 0, none⟩), .int .i64 now] w fun e w' => e = .returned (.tuple #[.agg #[.int .i64 0, .int .i64 0], .bool false]) ∧ ∃ X', Tx w' c n A X' ∧ (∀ j, X' j → X j ∨ w.heap.size ≤ j) ∧ Only w w' X := by
  refine (t_next0 w c n A now h.big hn h0 (big_new X w)).mono ?_
  rintro e w' ⟨rfl, h1, h2⟩
  exact ⟨rfl, h.next h1 h2⟩
theorem x_next1 (w : World) (c n : Nat) (A : K → Option Int) (X : Nat → Prop) (now : Int) (hn : n < 1073741824) (k : K) (t : Int) (hF : Fst A k t) (ht : t ≤ now) (n1 : Nat) (hn1 : n = n1 + 1) (h : Tx w c n A X) :
    Calls Try.prog 14 #[.pointer (some ⟨c, 0, none⟩), .int .i64 now] w fun e w' => e = .returned (.tuple #[kv k, .bool true]) ∧ ∃ X', Tx w' c n1 (updZ A k none) X' ∧ (∀ j, X' j → X j ∨ w.heap.size ≤ j) ∧ Only w w' X := by
  refine (t_next1 w c n A now h.big hn k t hF ht n1 hn1 (big_new X w)).mono ?_
  rintro e w' ⟨rfl, h1, h2⟩
  exact ⟨rfl, h.next h1 h2⟩
theorem x_new (w : World) : Calls Try.prog 11 #[] w fun e w' => e = .returned (.pointer (some ⟨w.heap.size, 0, none⟩)) ∧ Tx w' w.heap.size 0 (fun _ => none) (fun j => j = w.heap.size) ∧ Below w.heap.size w w' := by
  refine (t_new w).mono ?_
  rintro e w' ⟨rfl, h1, h2⟩
  exact ⟨rfl, ⟨h1, fun j q => by rw [q]; exact h1.lt⟩, h2⟩
theorem Tx.lt {w : World} {c n : Nat} {A : K → Option Int} {X : Nat → Prop} (h : Tx w c n A X) : c < w.heap.size := h.1.lt
theorem Tx.pos {w : World} {c n : Nat} {A : K → Option Int} {X : Nat → Prop} (h : Tx w c n A X) {k : K} {t : Int} (hk : A k = some t) : ∃ n1, n = n1 + 1 := ⟨n - 1, by have := (h.1.okA hk).2.2; omega⟩

/-- What Next tells of these times, and what it leaves. -/
def Nx (A : K → Option Int) (now : Int) (k : K) (b : Bool) (C : K → Option Int) : Prop :=
  (b = true ∧ (∃ t, Fst A k t ∧ t ≤ now) ∧ C = updZ A k none) ∨ (b = false ∧ k = (0, 0) ∧ C = A ∧ ∀ k t, A k = some t → now < t)
theorem x_next (w : World) (c n : Nat) (A : K → Option Int) (X : Nat → Prop) (now : Int) (hn : n < 1073741824) (h : Tx w c n A X) :
    Calls Try.prog 14 #[.pointer (some ⟨c, 0, none⟩), .int .i64 now] w fun e w' => ∃ (k : K) (b : Bool) (C : K → Option Int) (n' : Nat), e = .returned (.tuple #[kv k, .bool b]) ∧ Nx A now k b C ∧ n = n' + b.toNat ∧ ∃ X', Tx w' c n' C X' ∧ (∀ j, X' j → X j ∨ w.heap.size ≤ j) ∧ Only w w' X := by
  by_cases hq : ∃ k t, Fst A k t ∧ t ≤ now
  · obtain ⟨k, t, hF, ht⟩ := hq
    obtain ⟨n1, hn1⟩ := h.pos hF.1
    refine (x_next1 w c n A X now hn k t hF ht n1 hn1 h).mono ?_
    rintro e w' ⟨rfl, h1⟩
    exact ⟨k, true, _, n1, rfl, Or.inl ⟨rfl, ⟨t, hF, ht⟩, rfl⟩, hn1, h1⟩
  · have h0 : ∀ k t, A k = some t → now < t := by
      intro k t hk
      obtain ⟨k0, t0, hF⟩ := h.1.fst (h.1.okA hk).2.2
      have h1 := hF.le hk
      have h2 : ¬ t0 ≤ now := fun q => hq ⟨k0, t0, hF, q⟩
      omega
    refine (x_next0 w c n A X now hn h0 h).mono ?_
    rintro e w' ⟨rfl, h1⟩
    exact ⟨(0, 0), false, A, n, rfl, Or.inr ⟨rfl, rfl, rfl, h0⟩, rfl, h1⟩

/-- The first m keys that come of these times, none later than now, and what is left. -/
def Tk (A : K → Option Int) (now : Int) (m : Nat) (F : Nat → K) (B : K → Option Int) : Prop :=
  ∃ Z : Nat → K → Option Int, Z 0 = A ∧ Z m = B ∧ ∀ i, i < m → (∃ t, Fst (Z i) (F i) t ∧ t ≤ now) ∧ Z (i + 1) = updZ (Z i) (F i) none
theorem Tk.nil (A : K → Option Int) (now : Int) (F : Nat → K) : Tk A now 0 F A := ⟨fun _ => A, rfl, rfl, fun i hi => absurd hi (by omega)⟩
theorem Tk.snoc {A B : K → Option Int} {now : Int} {m : Nat} {F : Nat → K} {k : K} {t : Int} (h : Tk A now m F B) (hF : Fst B k t) (ht : t ≤ now) : Tk A now (m + 1) (upd F m k) (updZ B k none) := by
  obtain ⟨Z, h0, hm, hs⟩ := h
  refine ⟨upd Z (m + 1) (updZ B k none), by rw [upd_ne _ _ (by omega)]; exact h0, upd_same _ _ _, fun i hi => ?_⟩
  by_cases e : i = m
  · subst e
    rw [upd_ne Z _ (show i ≠ i + 1 by omega), upd_same, upd_same, hm]
    exact ⟨⟨t, hF, ht⟩, rfl⟩
  · rw [upd_ne Z _ (show i ≠ m + 1 by omega), upd_ne Z _ (show i + 1 ≠ m + 1 by omega), upd_ne F _ e]
    exact hs i (by omega)

abbrev kc (x : K) : List Value := [.int .i64 x.1, .int .i64 x.2]
theorem encK : Enc kc 2 := ⟨fun _ => rfl, by decide, fun x u hu => by simp at hu; rcases hu with rfl | rfl <;> rfl⟩
theorem infoK : (Try.prog.info? 30).map (fun i => (i.zero, i.size, i.bytes)) = some (some (.agg #[.int .i64 0, .int .i64 0]), 2, 16) := by kernel_rfl

set_option maxRecDepth 100000 in
set_option maxHeartbeats 1600000 in
theorem x_due (w : World) (c n : Nat) (A : K → Option Int) (X : Nat → Prop) (now : Int) (hn : n < 1073741824) (h : Tx w c n A X) :
    Calls Try.prog 15 #[.pointer (some ⟨c, 0, none⟩), .int .i64 now] w fun e w' => ∃ (sv : Value) (G : Option Nat) (m n' : Nat) (F : Nat → K) (B : K → Option Int), e = .returned sv ∧ Its kc 2 30 w' sv G m F ∧ Tk A now m F B ∧ (∀ k t, B k = some t → now < t) ∧ n = n' + m ∧ (∃ X', Tx w' c n' B X' ∧ (∀ j, X' j → X j ∨ w.heap.size ≤ j) ∧ ∀ g, G = some g → ¬ X' g) ∧ (∀ g, G = some g → w.heap.size ≤ g) ∧ Only w w' X := by
  have hml : (1073741824 : Nat) < maxLen := by decide
  obtain ⟨iT, hi1, hi2, hi3, hi4⟩ := info3 infoK
  go_enter Try.func15, Try.ntmps15
  go_wp2_with fail
  refine (x_next w c n A X now hn h).mono ?_
  rintro e w1 ⟨k, b, C, n1, rfl, hnx, hnn, X1, h1, hX1, o1⟩
  go_wp2_with fail
  have HB1 := Lib.hid (heap_alloc_new w1 (.cells #[.int .i64 k.1, .int .i64 k.2] 30))
  have h2 := h1.box (.cells #[.int .i64 k.1, .int .i64 k.2] 30)
  have o2 := o1.alloc (.cells #[.int .i64 k.1, .int .i64 k.2] 30)
  have hq1 : w.heap.size ≤ w1.heap.size := o1.size
  have hq2 : ¬ X1 w1.heap.size := h1.new (Nat.le_refl _)
  generalize w1.alloc (.cells #[.int .i64 k.1, .int .i64 k.2] 30) = w2 at HB1 h2 o2 ⊢
  generalize w1.heap.size = H at HB1 hq1 hq2 ⊢
  go_loopg [5, 6, 7] (n1 + b.toNat) (fun gk v5 v6 v7 wr => ∃ (m nC H : Nat) (F : Nat → K) (B C : K → Option Int) (k : K) (b : Bool) (G : Option Nat) (X' : Nat → Prop), Its kc 2 30 wr v5 G m F ∧ v6 = .pointer (some ⟨H, 0, none⟩) ∧ v7 = .bool b ∧ Hid (wr.heap[H]? = some (.cells #[.int .i64 k.1, .int .i64 k.2] 30 (0, 0))) ∧ Tk A now m F B ∧ Nx B now k b C ∧ Hid (gk = nC + b.toNat) ∧ Hid (n = nC + b.toNat + m) ∧ Tx wr c nC C X' ∧ Hid (∀ j, X' j → X j ∨ w.heap.size ≤ j) ∧ Hid (∀ g, G = some g → ¬ X' g ∧ w.heap.size ≤ g ∧ g ≠ H) ∧ ¬ X' H ∧ w.heap.size ≤ H ∧ Only w wr X)
  case atStart => exact ⟨0, n1, H, fun _ => (0, 0), A, C, k, b, none, X1, Or.inl ⟨rfl, rfl, rfl⟩, rfl, rfl, HB1, Tk.nil A now _, hnx, Lib.hid rfl, Lib.hid (by omega), h2, Lib.hid hX1, Lib.hid (fun _ q => nomatch q), hq2, hq1, o2⟩
  case round =>
    clear HB1 h2 o2 hq1 hq2 h1 o1 hX1 hnx hnn
    obtain ⟨m, nC, H, F, B, C, k, b, G, X', its, rfl, rfl, HB, hTk, hNx, HGK, HNN, hT, HX, HG, hXH, hwH, hO⟩ := hrel
    rcases hNx with ⟨rfl, hf, hC⟩ | ⟨rfl, _, hC, hlate⟩
    · obtain ⟨sA, scap, rfl, hc1, hc2⟩ := its.slice
      have y0 := cell_of_row _ _ 0 _ _ _ HB.out
      have y1 := cell_of_row _ _ 1 _ _ _ HB.out
      have hTk1 : Tk A now (m + 1) (upd F m k) C := by
        obtain ⟨t, hF, ht⟩ := hf
        rw [hC]; exact hTk.snoc hF ht
      have hHlt := lt_of_row HB.out
      clear hf hC hTk
      have hmn : m + 1 ≤ 1073741824 := by have := HNN.out; simp at this; omega
      have hnm : m + 1 ≤ maxLen := by omega
      have hnb : (m + 1) * 16 ≤ 140737488355328 := by omega
      go_upto_region 5 with (fail)
      have itsB := its.kept ((Only.refl wr (fun _ => False)).alloc (.cells #[.int .i64 k.1, .int .i64 k.2] 30)) (fun _ _ q => q)
      have hrB := range_new wr [.int .i64 k.1, .int .i64 k.2] 30
      go_upto_region 6 with (at_builtin; refine wpList_item_app encK rfl (.tmp 21) (.tmp 23) 36 rfl iT (.agg #[.int .i64 0, .int .i64 0]) 16 Try.underlying36 hi1 hi2 hi3 hi4 rfl _ G m F rfl itsB k wr.heap.size rfl hrB hnm hnb ?_; intro g cap w2 hrow2 hO2 hg2)
      have hOg : Only wr w2 (fun j => G = some j) := ((Only.refl wr _).alloc _).tr (hO2 (fun j => G = some j) (fun _ q => q))
      have hgf : ¬ X' g ∧ w.heap.size ≤ g ∧ g ≠ H := by
        rcases hg2 with q | q
        · exact HG.out g q
        · rw [World.size_alloc] at q
          exact ⟨hT.new (by omega), by have := hO.size; omega, by omega⟩
      have HB2 := Lib.hid (hOg.blk (fun q => (HG.out H q).2.2 rfl) HB.out)
      have hT2 := hT.kept hOg (fun j q e => (HG.out j e).1 q)
      have hOw2 : Only w w2 X := hO.trans hOg (fun j q => Or.inr (HG.out j q).2.1)
      have hs2 := hOg.size
      clear hO2 hg2 y0 y1 itsB hrB hOg
      have y0 := cell_of_row _ _ 0 _ _ _ HB2.out
      have y1 := cell_of_row _ _ 1 _ _ _ HB2.out
      go_upto_region 4 with (fail)
      have HB3 := Lib.hid (heap_alloc_new w2 (.cells #[.int .i64 k.1, .int .i64 k.2] 30))
      have hT3 := hT2.box (.cells #[.int .i64 k.1, .int .i64 k.2] 30)
      have hO3 := hOw2.alloc (.cells #[.int .i64 k.1, .int .i64 k.2] 30)
      have hrow3 := hrow2.kept ((Only.refl w2 (fun _ => False)).alloc (.cells #[.int .i64 k.1, .int .i64 k.2] 30)) (fun q => q)
      have hN3 : ¬ X' w2.heap.size := hT2.new (Nat.le_refl _)
      have hg3 : g ≠ w2.heap.size := by have := hrow2.lt; omega
      have hw3 : w.heap.size ≤ w2.heap.size := hOw2.size
      clear y0 y1 HB2 hT2 hOw2 hrow2 hs2
      obtain ⟨H3, hH3⟩ : ∃ H3, w2.heap.size = H3 := ⟨_, rfl⟩
      rw [hH3] at HB3 hN3 hg3 hw3
      rw [hH3]
      clear hH3
      generalize w2.alloc (.cells #[.int .i64 k.1, .int .i64 k.2] 30) = w3 at HB3 hT3 hO3 hrow3 ⊢
      have hnC : nC < 1073741824 := by have := HNN.out; omega
      go_wp2_with fail
      refine (x_next w3 c nC C X' now hnC hT3).mono ?_
      rintro e w4 ⟨k2, b2, C2, n2, rfl, hNx2, hnn2, X2, hT4, hX4, o4⟩
      have HB4 := Lib.hid (o4.blk hN3 HB3.out)
      have hrow4 := hrow3.kept o4 hgf.1
      have hH3 := lt_of_row HB3.out
      have hg3' := hrow3.lt
      have hX2H : ¬ X2 H3 := fun q => (hX4 H3 q).elim hN3 (fun q => by omega)
      have hX2g : ¬ X2 g := fun q => (hX4 g q).elim hgf.1 (fun q => by omega)
      have hO4 : Only w w4 X := hO3.trans o4 (fun j q => HX.out j q)
      go_wp2_with (with_reducible refine wpList_store_key rfl (.tmp 6) (.tmp 19) rfl H3 k2.1 k2.2 rfl rfl k.1 k.2 HB4 ?_; intro w5 HB5 hg5)
      have o5 : Only w4 w5 (fun j => j = H3) := Only.grown hg5 (Or.inl rfl)
      go_roundg (n2 + b2.toNat)
      case measure => have := HGK.out; simp at this; omega
      case rel =>
        refine ⟨m + 1, n2, H3, upd F m k, C, C2, k2, b2, some g, X2, Or.inr ⟨g, cap, rfl, rfl, hrow4.kept o5 hg3⟩, rfl, rfl, HB5, hTk1, hNx2, Lib.hid rfl, Lib.hid ?_, hT4.kept o5 (fun j q e => hX2H (by rw [← e]; exact q)), Lib.hid ?_, Lib.hid ?_, hX2H, hw3, hO4.trans o5 (fun j q => by rw [q]; exact Or.inr hw3)⟩
        · have := HNN.out; simp at this; omega
        · intro j q
          rcases hX4 j q with q | q
          · exact HX.out j q
          · exact Or.inr (Nat.le_trans hO3.size q)
        · intro g' q
          cases q
          exact ⟨hX2g, hgf.2.1, hg3⟩
    · go_wp2_with fail
      go_ret
      refine ⟨_, G, m, nC, F, B, rfl, its, hTk, hlate, by have := HNN.out; simp at this; exact this, ⟨X', by rw [← hC]; exact hT, HX.out, fun g q => (HG.out g q).1⟩, fun g q => (HG.out g q).2.1, hO⟩
end Go.Proofs.Ytkldoeillkfpbaa.W.HT
