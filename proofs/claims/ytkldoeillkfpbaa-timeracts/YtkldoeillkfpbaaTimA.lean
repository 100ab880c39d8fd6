/- Package timer: words, and the contracts of its functions. -/
import Derived.Test.YtkldoeillkfpbaaHpTH
import Derived.Deep.RegionHeld3
namespace Go.Proofs.Ytkldoeillkfpbaa.W.HT
open Go.RowKit

theorem sizePt : (Try.prog.info? 72).map (·.size) = some 1 := by kernel_rfl

theorem len1_0 (a : Value) : 0 < [a].length := by simp
/-- Times by keys, as moments by keys. -/
def Mo (A : K → Option Int) : K → Option V := fun k => (A k).map (fun t => (t, k))
theorem Mo_put (A : K → Option Int) (k : K) (t : Int) : updZ (Mo A) k (some (t, k)) = Mo (updZ A k (some t)) := by
  funext j; unfold Mo updZ; split
  · rename_i e; subst e; rfl
  · rfl
theorem Mo_del (A : K → Option Int) (k : K) : updZ (Mo A) k none = Mo (updZ A k none) := by
  funext j; unfold Mo updZ; split <;> rfl
theorem Mo_at {A : K → Option Int} {k : K} {t : Int} (h : A k = some t) : Mo A k = some (t, k) := by unfold Mo; rw [h]; rfl
theorem Mo_no {A : K → Option Int} {k : K} (h : A k = none) : Mo A k = none := by unfold Mo; rw [h]; rfl
theorem Mo_is (A : K → Option Int) (k : K) : (Mo A k).isSome = (A k).isSome := by unfold Mo; cases A k <;> rfl
theorem Mo_inv {A : K → Option Int} {k : K} {v : V} (h : Mo A k = some v) : A k = some v.1 ∧ v.2 = k := by
  unfold Mo at h
  cases q : A k with
  | none => rw [q] at h; cases h
  | some t => rw [q] at h; cases h; exact ⟨rfl, rfl⟩
theorem Mo_empty : Mo (fun _ => none) = fun _ => none := rfl

/-- Timers in block c whose heap is in block r. -/
structure Ta (w : World) (c r n : Nat) (A : K → Option Int) (Y : Nat → Prop) : Prop where
  blk : w.heap[c]? = some (.cells #[.pointer (some ⟨r, 0, none⟩)] 74 (0, 0))
  ob : Ob w r FS n (Mo A) Y
  ne : ¬ Y c
/-- Timers in block c, all of them in blocks of P. -/
def Tq (P : Nat → Prop) (w : World) (c n : Nat) (A : K → Option Int) : Prop :=
  P c ∧ ((w.heap[c]? = some (.cells #[.pointer none] 74 (0, 0)) ∧ n = 0 ∧ A = fun _ => none) ∨ ∃ r Y, Ta w c r n A Y ∧ ∀ j, Y j → P j)
theorem Ta.kept {w w' : World} {c r n : Nat} {A : K → Option Int} {Y S : Nat → Prop} (h : Ta w c r n A Y) (ho : Only w w' S) (hc : ¬ S c) (hd : ∀ j, Y j → ¬ S j) : Ta w' c r n A Y := ⟨ho.blk hc h.blk, h.ob.kept ho hd, h.ne⟩
theorem Tq.lt {P : Nat → Prop} {w : World} {c n : Nat} {A : K → Option Int} (h : Tq P w c n A) : c < w.heap.size := by
  rcases h.2 with h | ⟨r, Y, h, _⟩
  · exact lt_of_row h.1
  · exact lt_of_row h.blk
theorem Tq.kept {P S : Nat → Prop} {w w' : World} {c n : Nat} {A : K → Option Int} (h : Tq P w c n A) (ho : Only w w' S) (hd : ∀ j, P j → ¬ S j) : Tq P w' c n A := by
  refine ⟨h.1, ?_⟩
  rcases h.2 with ⟨h1, h2⟩ | ⟨r, Y, h1, h2⟩
  · exact Or.inl ⟨ho.blk (hd c h.1) h1, h2⟩
  · exact Or.inr ⟨r, Y, h1.kept ho (hd c h.1) (fun j q => hd j (h2 j q)), h2⟩
theorem Tq.below {P : Nat → Prop} {w w' : World} {c n : Nat} {A : K → Option Int} (h : Tq P w c n A) (hb : Below w.heap.size w w') : Tq P w' c n A := h.kept (Only.of_below (S := fun _ => False) hb) (fun _ _ q => q)
theorem Tq.mono {P P' : Nat → Prop} {w : World} {c n : Nat} {A : K → Option Int} (h : Tq P w c n A) (hp : ∀ j, P j → P' j) : Tq P' w c n A := by
  refine ⟨hp c h.1, ?_⟩
  rcases h.2 with h1 | ⟨r, Y, h1, h2⟩
  · exact Or.inl h1
  · exact Or.inr ⟨r, Y, h1, fun j q => hp j (h2 j q)⟩
theorem Tq.tight {P : Nat → Prop} {w : World} {c n : Nat} {A : K → Option Int} (h : Tq P w c n A) : Tq (fun j => P j ∧ j < w.heap.size) w c n A := by
  refine ⟨⟨h.1, h.lt⟩, ?_⟩
  rcases h.2 with h1 | ⟨r, Y, h1, h2⟩
  · exact Or.inl h1
  · exact Or.inr ⟨r, Y, h1, fun j q => ⟨h2 j q, h1.ob.lt j q⟩⟩
theorem Tq.okA {P : Nat → Prop} {w : World} {c n : Nat} {A : K → Option Int} (h : Tq P w c n A) {k : K} {t : Int} (hk : A k = some t) : (Lit.int .i64 t).wf = true ∧ kw k ∧ 0 < n := by
  rcases h.2 with ⟨_, _, h1⟩ | ⟨r, Y, h1, h2⟩
  · rw [h1] at hk; cases hk
  · have := h1.ob.okV (Mo_at hk); exact ⟨this.1.1, this.2, h1.ob.pos (Mo_at hk)⟩
theorem Tq.zero {P : Nat → Prop} {w : World} {c : Nat} {A : K → Option Int} (h : Tq P w c 0 A) (k : K) : A k = none := by
  rcases h.2 with ⟨_, _, h1⟩ | ⟨r, Y, h1, h2⟩
  · rw [h1]
  · cases q : A k with
    | none => rfl
    | some t => have := h1.ob.zero k; rw [Mo_at q] at this; cases this
theorem Tq.some_ {P : Nat → Prop} {w : World} {c n : Nat} {A : K → Option Int} (h : Tq P w c n A) (hn : 0 < n) : ∃ k t, A k = some t := by
  rcases h.2 with ⟨_, h1, _⟩ | ⟨r, Y, h1, h2⟩
  · omega
  · obtain ⟨k, v, q⟩ := h1.ob.some_ hn
    exact ⟨k, v.1, (Mo_inv q).1⟩

set_option maxRecDepth 100000 in
set_option maxHeartbeats 800000 in
theorem t_new (w : World) : Calls Try.prog 11 #[] w fun e w' => e = .returned (.pointer (some ⟨w.heap.size, 0, none⟩)) ∧ Tq (fun j => j = w.heap.size) w' w.heap.size 0 (fun _ => none) ∧ Below w.heap.size w w' := by
  go_enter Try.func11, Try.ntmps11
  go_wp2
  go_ret
  exact ⟨rfl, ⟨rfl, Or.inl ⟨heap_alloc_new w _, rfl, rfl⟩⟩, (Below.refl _ _).alloc (Nat.le_refl _) _⟩

set_option maxRecDepth 100000 in
set_option maxHeartbeats 800000 in
theorem all_any {P : Nat → Prop} (w : World) (c n : Nat) (A : K → Option Int) (h : Tq P w c n A) (hP : ∀ j, w.heap.size ≤ j → P j) :
    Calls Try.prog 30 #[.pointer (some ⟨c, 0, none⟩)] w fun e w' => ∃ r Y, e = .returned (.pointer (some ⟨r, 0, none⟩)) ∧ Ta w' c r n A Y ∧ (∀ j, Y j → P j) ∧ Only w w' (fun j => j = c) := by
  rcases h.2 with ⟨h1, h2, h3⟩ | ⟨r, Y, h1, h2⟩
  · have c0 := cell_of_row _ _ 0 _ _ _ h1
    have HB := Lib.hid h1
    have hclt := lt_of_row h1
    clear h1
    go_enter Try.func30, Try.ntmps30
    go_wp2_with fail
    refine (new_any _ _ _ w).mono ?_
    rintro e w1 ⟨rfl, ob1, b1⟩
    have ho1 : Only w w1 (fun j => j = c) := Only.of_below b1
    have HB1 := Lib.hid ((Only.of_below (S := fun _ => False) b1).blk (fun q => q) HB.out)
    clear c0
    go_upto_region 3 with (with_reducible refine wpList_store_one rfl 72 (.tmp 11) (.tmp 9) rfl sizePt c 0 rfl (.pointer (some ⟨w.heap.size, 0, none⟩)) rfl (cells_ptr _) (one_ptr _) [.pointer none] 74 HB1.out (len1_0 _) ?_; intro w2 HB2 hg2)
    have ho2 : Only w1 w2 (fun j => j = c) := Only.grown hg2 (Or.inl rfl)
    have HB3 : Hid (w2.heap[c]? = some (.cells #[.pointer (some ⟨w.heap.size, 0, none⟩)] 74 (0, 0))) := HB2
    have c0 := cell_of_row _ _ 0 _ _ _ HB3.out
    go_wp2_with fail
    go_ret
    refine ⟨w.heap.size, _, rfl, ⟨HB3.out, by rw [h2, h3]; exact ob1.kept ho2 (fun j q e => by omega), by omega⟩, fun j q => hP j (by omega), ho1.tr ho2⟩
  · have c0 := cell_of_row _ _ 0 _ _ _ h1.blk
    go_enter Try.func30, Try.ntmps30
    go_wp2_with fail
    go_ret
    exact ⟨r, Y, rfl, h1, h2, Only.refl _ _⟩

set_option maxRecDepth 100000 in
set_option maxHeartbeats 800000 in
theorem t_len {P : Nat → Prop} (w : World) (c n : Nat) (A : K → Option Int) (h : Tq P w c n A) (hP : ∀ j, w.heap.size ≤ j → P j) :
    Calls Try.prog 17 #[.pointer (some ⟨c, 0, none⟩)] w fun e w' => e = .returned (.int .i64 (n : Int)) ∧ Tq P w' c n A ∧ Only w w' P := by
  have hall := all_any w c n A h hP
  have hPc := h.1
  clear h
  go_enter Try.func17, Try.ntmps17
  go_wp2_with fail
  refine hall.mono ?_
  rintro e w1 ⟨r, Y, rfl, h1, h2, o1⟩
  clear hall
  go_wp2_with fail
  refine (len_any r FS n (Mo A) Y w1 h1.ob).mono ?_
  rintro e w2 ⟨rfl, rfl⟩
  go_wp2_with fail
  go_ret
  exact ⟨rfl, ⟨hPc, Or.inr ⟨r, Y, h1, h2⟩⟩, o1.mono (fun j q => by rw [q]; exact hPc)⟩

/-- Behind Set and Drop. -/
theorem Ta.turned {P : Nat → Prop} {w w' : World} {c r n n1 : Nat} {A B : K → Option Int} {Y Y' : Nat → Prop} (h : Ta w c r n A Y) (hY : ∀ j, Y j → P j) (hP : ∀ j, w.heap.size ≤ j → P j) (g1 : Ob w' r FS n1 (Mo B) Y') (g2 : ∀ j, Y' j → Y j ∨ w.heap.size ≤ j) (g5 : Only w w' (fun j => Y j ∨ False)) :
    Ta w' c r n1 B Y' ∧ ∀ j, Y' j → P j := by
  have hc := lt_of_row h.blk
  refine ⟨⟨g5.blk (fun q => q.elim h.ne id) h.blk, g1, fun q => ?_⟩, fun j q => ?_⟩
  · rcases g2 c q with q | q
    · exact h.ne q
    · omega
  · rcases g2 j q with q | q
    · exact hY j q
    · exact hP j q

set_option maxRecDepth 100000 in
set_option maxHeartbeats 800000 in
theorem t_set {P : Nat → Prop} (w : World) (c n : Nat) (A : K → Option Int) (k : K) (t : Int) (h : Tq P w c n A) (hk : kw k) (ht : (Lit.int .i64 t).wf = true) (hn : n < 1073741823) (n' : Nat) (hn' : n' = if (A k).isSome then n else n + 1) (hP : ∀ j, w.heap.size ≤ j → P j) :
    Calls Try.prog 16 #[.pointer (some ⟨c, 0, none⟩), kv k, .int .i64 t] w fun e w' => e = .returned (.tuple #[]) ∧ Tq P w' c n' (updZ A k (some t)) ∧ Only w w' P := by
  have hn2 : n' = if (Mo A k).isSome then n else n + 1 := by rw [Mo_is]; exact hn'
  have HN' := Lib.hid hn2
  have hokv : ok (t, k) := ⟨ht, hk⟩
  clear hn' hn2
  go_enter Try.func16, Try.ntmps16
  go_upto_region 1 with (fail)
  have b1 : Below w.heap.size w (w.alloc (.cells #[.int .i64 k.1, .int .i64 k.2] 30)) := (Below.refl _ _).alloc (Nat.le_refl _) _
  have HBX := Lib.hid (heap_alloc_new w (.cells #[.int .i64 k.1, .int .i64 k.2] 30))
  obtain ⟨H, hH⟩ : ∃ H, w.heap.size = H := ⟨_, rfl⟩
  have hx : Tq (fun j => P j ∧ j ≠ H) (w.alloc (.cells #[.int .i64 k.1, .int .i64 k.2] 30)) c n A := (h.tight.below b1).mono (fun j q => ⟨q.1, by omega⟩)
  have hHc : H ≠ c := by have := h.lt; omega
  have hHw : w.heap.size ≤ H := by omega
  rw [hH] at HBX
  rw [hH]
  clear hH h
  have hHlt := lt_of_row HBX.out
  generalize w.alloc (.cells #[.int .i64 k.1, .int .i64 k.2] 30) = w1 at b1 HBX hx hHlt ⊢
  have hPx : ∀ j, w1.heap.size ≤ j → (fun j => P j ∧ j ≠ H) j := fun j q => ⟨hP j (Nat.le_trans b1.size q), by omega⟩
  have hPd : ∀ j, w1.drew.heap.size ≤ j → (fun j => P j ∧ j ≠ H) j := hPx
  have hxd : Tq (fun j => P j ∧ j ≠ H) w1.drew c n A := hx.kept ((Only.refl w1 (fun _ => False)).drewN 1) (fun _ _ q => q)
  have e0 := cell_of_row _ _ 0 _ _ _ HBX.out
  have e1 := cell_of_row _ _ 1 _ _ _ HBX.out
  have e0d : w1.drew.cell? ⟨H, 0, none⟩ = some (.int .i64 k.1) := e0
  have e1d : w1.drew.cell? ⟨H, 1, none⟩ = some (.int .i64 k.2) := e1
  go_region_with (first
    | (go_at_call 30; refine (all_any _ c n A hxd hPd).mono ?_; rintro e w3 ⟨r, Y, rfl, h3, h4, o3⟩; have f0 := o3.cell (x := ⟨H, 0, none⟩) hHc e0d; have f1 := o3.cell (x := ⟨H, 1, none⟩) hHc e1d)
    | (go_at_call 34; refine (set_any (less_s r) n (Mo A) Y k (t, k) _ h3.ob hk hokv hn 0 (by decide) trivial (fun _ q => q.elim) (fun _ q => q.elim) n' HN'.out).mono ?_; rintro e w4 ⟨rfl, Y', a, g1, g2, _, _, g5⟩))
  all_goals
    (go_wp2_with fail
     go_end0
     rw [Mo_put] at g1
     obtain ⟨h5, h6⟩ := h3.turned h4 (fun j q => hPd j (Nat.le_trans o3.size q)) g1 g2 g5
     exact ⟨rfl, ⟨hx.1.1, Or.inr ⟨r, Y', h5, fun j q => (h6 j q).1⟩⟩, (((Only.of_below (S := P) b1).drewN 1).tr (o3.mono (fun j q => by rw [q]; exact hx.1.1))).tr (g5.mono (fun j q => q.elim (fun q => (h4 j q).1) (fun q => q.elim)))⟩)

set_option maxRecDepth 100000 in
set_option maxHeartbeats 800000 in
theorem t_drop0 {P : Nat → Prop} (w : World) (c n : Nat) (A : K → Option Int) (k : K) (h : Tq P w c n A) (hk : kw k) (hA : A k = none) (hP : ∀ j, w.heap.size ≤ j → P j) :
    Calls Try.prog 12 #[.pointer (some ⟨c, 0, none⟩), kv k] w fun e w' => e = .returned (.bool false) ∧ Tq P w' c n A ∧ Only w w' P := by
  have HA := Lib.hid (Mo_no hA)
  clear hA
  go_enter Try.func12, Try.ntmps12
  go_upto_region 1 with (fail)
  have b1 : Below w.heap.size w (w.alloc (.cells #[.int .i64 k.1, .int .i64 k.2] 30)) := (Below.refl _ _).alloc (Nat.le_refl _) _
  have HBX := Lib.hid (heap_alloc_new w (.cells #[.int .i64 k.1, .int .i64 k.2] 30))
  obtain ⟨H, hH⟩ : ∃ H, w.heap.size = H := ⟨_, rfl⟩
  have hx : Tq (fun j => P j ∧ j ≠ H) (w.alloc (.cells #[.int .i64 k.1, .int .i64 k.2] 30)) c n A := (h.tight.below b1).mono (fun j q => ⟨q.1, by omega⟩)
  have hHc : H ≠ c := by have := h.lt; omega
  have hHw : w.heap.size ≤ H := by omega
  rw [hH] at HBX
  rw [hH]
  clear hH h
  have hHlt := lt_of_row HBX.out
  generalize w.alloc (.cells #[.int .i64 k.1, .int .i64 k.2] 30) = w1 at b1 HBX hx hHlt ⊢
  have hPx : ∀ j, w1.heap.size ≤ j → (fun j => P j ∧ j ≠ H) j := fun j q => ⟨hP j (Nat.le_trans b1.size q), by omega⟩
  have hPd : ∀ j, w1.drew.heap.size ≤ j → (fun j => P j ∧ j ≠ H) j := hPx
  have hxd : Tq (fun j => P j ∧ j ≠ H) w1.drew c n A := hx.kept ((Only.refl w1 (fun _ => False)).drewN 1) (fun _ _ q => q)
  have e0 := cell_of_row _ _ 0 _ _ _ HBX.out
  have e1 := cell_of_row _ _ 1 _ _ _ HBX.out
  have e0d : w1.drew.cell? ⟨H, 0, none⟩ = some (.int .i64 k.1) := e0
  have e1d : w1.drew.cell? ⟨H, 1, none⟩ = some (.int .i64 k.2) := e1
  go_region_with (first
    | (go_at_call 30; refine (all_any _ c n A hxd hPd).mono ?_; rintro e w3 ⟨r, Y, rfl, h3, h4, o3⟩; have f0 := o3.cell (x := ⟨H, 0, none⟩) hHc e0d; have f1 := o3.cell (x := ⟨H, 1, none⟩) hHc e1d)
    | (go_at_call 31; refine (drop_none n (Mo A) Y k _ h3.ob hk HA.out).mono ?_; rintro e w4 ⟨rfl, g5⟩))
  all_goals
    (go_wp2_with fail
     go_ret
     have h5 := h3.kept (Only.of_below (S := fun _ => False) g5) (fun q => q) (fun _ _ q => q)
     exact ⟨rfl, ⟨hx.1.1, Or.inr ⟨r, Y, h5, fun j q => (h4 j q).1⟩⟩, (((Only.of_below (S := P) b1).drewN 1).tr (o3.mono (fun j q => by rw [q]; exact hx.1.1))).tr (Only.of_below g5)⟩)

set_option maxRecDepth 100000 in
set_option maxHeartbeats 800000 in
theorem t_drop {P : Nat → Prop} (w : World) (c n : Nat) (A : K → Option Int) (k : K) (t : Int) (h : Tq P w c n A) (hA : A k = some t) (hn : n < 1073741824) (n1 : Nat) (hn1 : n = n1 + 1) (hP : ∀ j, w.heap.size ≤ j → P j) :
    Calls Try.prog 12 #[.pointer (some ⟨c, 0, none⟩), kv k] w fun e w' => e = .returned (.bool true) ∧ Tq P w' c n1 (updZ A k none) ∧ Only w w' P := by
  have hk := (h.okA hA).2.1
  have HA := Lib.hid (Mo_at hA)
  have HN1 := Lib.hid hn1
  clear hA hn1
  go_enter Try.func12, Try.ntmps12
  go_upto_region 1 with (fail)
  have b1 : Below w.heap.size w (w.alloc (.cells #[.int .i64 k.1, .int .i64 k.2] 30)) := (Below.refl _ _).alloc (Nat.le_refl _) _
  have HBX := Lib.hid (heap_alloc_new w (.cells #[.int .i64 k.1, .int .i64 k.2] 30))
  obtain ⟨H, hH⟩ : ∃ H, w.heap.size = H := ⟨_, rfl⟩
  have hx : Tq (fun j => P j ∧ j ≠ H) (w.alloc (.cells #[.int .i64 k.1, .int .i64 k.2] 30)) c n A := (h.tight.below b1).mono (fun j q => ⟨q.1, by omega⟩)
  have hHc : H ≠ c := by have := h.lt; omega
  have hHw : w.heap.size ≤ H := by omega
  rw [hH] at HBX
  rw [hH]
  clear hH h
  have hHlt := lt_of_row HBX.out
  generalize w.alloc (.cells #[.int .i64 k.1, .int .i64 k.2] 30) = w1 at b1 HBX hx hHlt ⊢
  have hPx : ∀ j, w1.heap.size ≤ j → (fun j => P j ∧ j ≠ H) j := fun j q => ⟨hP j (Nat.le_trans b1.size q), by omega⟩
  have hPd : ∀ j, w1.drew.heap.size ≤ j → (fun j => P j ∧ j ≠ H) j := hPx
  have hxd : Tq (fun j => P j ∧ j ≠ H) w1.drew c n A := hx.kept ((Only.refl w1 (fun _ => False)).drewN 1) (fun _ _ q => q)
  have e0 := cell_of_row _ _ 0 _ _ _ HBX.out
  have e1 := cell_of_row _ _ 1 _ _ _ HBX.out
  have e0d : w1.drew.cell? ⟨H, 0, none⟩ = some (.int .i64 k.1) := e0
  have e1d : w1.drew.cell? ⟨H, 1, none⟩ = some (.int .i64 k.2) := e1
  go_region_with (first
    | (go_at_call 30; refine (all_any _ c n A hxd hPd).mono ?_; rintro e w3 ⟨r, Y, rfl, h3, h4, o3⟩; have f0 := o3.cell (x := ⟨H, 0, none⟩) hHc e0d; have f1 := o3.cell (x := ⟨H, 1, none⟩) hHc e1d)
    | (go_at_call 31; refine (drop_some (less_s r) n (Mo A) Y k (t, k) _ h3.ob hk HA.out hn 0 (by decide) trivial (fun _ q => q.elim) (fun _ q => q.elim) n1 HN1.out).mono ?_; rintro e w4 ⟨rfl, Y', a, g1, g2, _, _, g5⟩))
  all_goals
    (go_wp2_with fail
     go_ret
     rw [Mo_del] at g1
     obtain ⟨h5, h6⟩ := h3.turned h4 (fun j q => hPd j (Nat.le_trans o3.size q)) g1 g2 g5
     exact ⟨rfl, ⟨hx.1.1, Or.inr ⟨r, Y', h5, fun j q => (h6 j q).1⟩⟩, (((Only.of_below (S := P) b1).drewN 1).tr (o3.mono (fun j q => by rw [q]; exact hx.1.1))).tr (g5.mono (fun j q => q.elim (fun q => (h4 j q).1) (fun q => q.elim)))⟩)

end Go.Proofs.Ytkldoeillkfpbaa.W.HT
