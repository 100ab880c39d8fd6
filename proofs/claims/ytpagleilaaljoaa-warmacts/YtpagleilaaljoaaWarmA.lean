/- Package warm: words, and the contracts of its functions. -/
import Derived.Test.YtpagleilaaljoaaHpRH
import Derived.Deep.RegionHeld3
namespace Go.Proofs.Ytpagleilaaljoaa.W.HR
open Go.RowKit
open Go.Proofs.Ytpagleilaaljoaa.R (above_yes above_no floor_any Fits U64 Rat)

theorem sizePt : (Try.prog.info? 71).map (·.size) = some 1 := by kernel_rfl
theorem sizeU : (Try.prog.info? 49).map (·.size) = some 1 := by kernel_rfl

/-- A cache in block c whose heap is in block r. -/
structure Ca (w : World) (c r cl n : Nat) (A : Int → Option V) (Y : Nat → Prop) : Prop where
  blk : w.heap[c]? = some (.cells #[.pointer (some ⟨r, 0, none⟩), .int .u64 (cl : Int)] 73 (0, 0))
  ob : Ob w r F45 n A Y
  ne : ¬ Y c
  ids : ∀ k v, A k = some v → v.2.2 = k
/-- A cache in block c, all of it in blocks of P. -/
def Cq (P : Nat → Prop) (w : World) (c cl n : Nat) (A : Int → Option V) : Prop :=
  P c ∧ ((w.heap[c]? = some (.cells #[.pointer none, .int .u64 (cl : Int)] 73 (0, 0)) ∧ n = 0 ∧ A = fun _ => none) ∨ ∃ r Y, Ca w c r cl n A Y ∧ ∀ j, Y j → P j)
theorem Ca.kept {w w' : World} {c r cl n : Nat} {A : Int → Option V} {Y S : Nat → Prop} (h : Ca w c r cl n A Y) (ho : Only w w' S) (hc : ¬ S c) (hd : ∀ j, Y j → ¬ S j) : Ca w' c r cl n A Y := ⟨ho.blk hc h.blk, h.ob.kept ho hd, h.ne, h.ids⟩
theorem Cq.lt {P : Nat → Prop} {w : World} {c cl n : Nat} {A : Int → Option V} (h : Cq P w c cl n A) : c < w.heap.size := by
  rcases h.2 with h | ⟨r, Y, h, _⟩
  · exact lt_of_row h.1
  · exact lt_of_row h.blk
theorem Cq.kept {P S : Nat → Prop} {w w' : World} {c cl n : Nat} {A : Int → Option V} (h : Cq P w c cl n A) (ho : Only w w' S) (hd : ∀ j, P j → ¬ S j) : Cq P w' c cl n A := by
  refine ⟨h.1, ?_⟩
  rcases h.2 with ⟨h1, h2⟩ | ⟨r, Y, h1, h2⟩
  · exact Or.inl ⟨ho.blk (hd c h.1) h1, h2⟩
  · exact Or.inr ⟨r, Y, h1.kept ho (hd c h.1) (fun j q => hd j (h2 j q)), h2⟩
theorem Cq.below {P : Nat → Prop} {w w' : World} {c cl n : Nat} {A : Int → Option V} (h : Cq P w c cl n A) (hb : Below w.heap.size w w') : Cq P w' c cl n A := h.kept (Only.of_below (S := fun _ => False) hb) (fun _ _ q => q)
theorem Cq.mono {P P' : Nat → Prop} {w : World} {c cl n : Nat} {A : Int → Option V} (h : Cq P w c cl n A) (hp : ∀ j, P j → P' j) : Cq P' w c cl n A := by
  refine ⟨hp c h.1, ?_⟩
  rcases h.2 with h1 | ⟨r, Y, h1, h2⟩
  · exact Or.inl h1
  · exact Or.inr ⟨r, Y, h1, fun j q => hp j (h2 j q)⟩
theorem Cq.tight {P : Nat → Prop} {w : World} {c cl n : Nat} {A : Int → Option V} (h : Cq P w c cl n A) : Cq (fun j => P j ∧ j < w.heap.size) w c cl n A := by
  refine ⟨⟨h.1, h.lt⟩, ?_⟩
  rcases h.2 with h1 | ⟨r, Y, h1, h2⟩
  · exact Or.inl h1
  · exact Or.inr ⟨r, Y, h1, fun j q => ⟨h2 j q, h1.ob.lt j q⟩⟩
theorem Cq.ids {P : Nat → Prop} {w : World} {c cl n : Nat} {A : Int → Option V} (h : Cq P w c cl n A) {k : Int} {v : V} (hk : A k = some v) : v.2.2 = k ∧ ok v ∧ (KL k).wf = true ∧ 0 < n := by
  rcases h.2 with ⟨_, _, h1⟩ | ⟨r, Y, h1, h2⟩
  · rw [h1] at hk; cases hk
  · exact ⟨h1.ids k v hk, (h1.ob.okV hk).1, (h1.ob.okV hk).2, h1.ob.pos hk⟩
theorem Cq.zero {P : Nat → Prop} {w : World} {c cl : Nat} {A : Int → Option V} (h : Cq P w c cl 0 A) (k : Int) : A k = none := by
  rcases h.2 with ⟨_, _, h1⟩ | ⟨r, Y, h1, h2⟩
  · rw [h1]
  · exact h1.ob.zero k
theorem Cq.clock {P : Nat → Prop} {w : World} {c cl n : Nat} {A : Int → Option V} (h : Cq P w c cl n A) : w.cell? ⟨c, 1, none⟩ = some (.int .u64 (cl : Int)) := by
  rcases h.2 with ⟨h1, _⟩ | ⟨r, Y, h1, h2⟩
  · exact cell_of_row _ _ 1 _ _ _ h1
  · exact cell_of_row _ _ 1 _ _ _ h1.blk

set_option maxRecDepth 100000 in
set_option maxHeartbeats 800000 in
theorem w_new (w : World) : Calls Try.prog 22 #[] w fun e w' => e = .returned (.pointer (some ⟨w.heap.size, 0, none⟩)) ∧ Cq (fun j => j = w.heap.size) w' w.heap.size 0 0 (fun _ => none) ∧ Below w.heap.size w w' := by
  go_enter Try.func22, Try.ntmps22
  go_wp2
  go_ret
  exact ⟨rfl, ⟨rfl, Or.inl ⟨heap_alloc_new w _, rfl, rfl⟩⟩, (Below.refl _ _).alloc (Nat.le_refl _) _⟩

set_option maxRecDepth 100000 in
set_option maxHeartbeats 800000 in
theorem all_any {P : Nat → Prop} (w : World) (c cl n : Nat) (A : Int → Option V) (h : Cq P w c cl n A) (hP : ∀ j, w.heap.size ≤ j → P j) :
    Calls Try.prog 33 #[.pointer (some ⟨c, 0, none⟩)] w fun e w' => ∃ r Y, e = .returned (.pointer (some ⟨r, 0, none⟩)) ∧ Ca w' c r cl n A Y ∧ (∀ j, Y j → P j) ∧ Only w w' (fun j => j = c) := by
  rcases h.2 with ⟨h1, h2, h3⟩ | ⟨r, Y, h1, h2⟩
  · have c0 := cell_of_row _ _ 0 _ _ _ h1
    have HB := Lib.hid h1
    have hclt := lt_of_row h1
    clear h1
    go_enter Try.func33, Try.ntmps33
    go_wp2_with fail
    refine (new_any _ _ _ w).mono ?_
    rintro e w1 ⟨rfl, ob1, b1⟩
    have ho1 : Only w w1 (fun j => j = c) := Only.of_below b1
    have HB1 := Lib.hid ((Only.of_below (S := fun _ => False) b1).blk (fun q => q) HB.out)
    clear c0
    go_upto_region 3 with (with_reducible refine wpList_store_one rfl 71 (.tmp 11) (.tmp 9) rfl sizePt c 0 rfl (.pointer (some ⟨w.heap.size, 0, none⟩)) rfl (cells_ptr _) (one_ptr _) [.pointer none, .int .u64 (cl : Int)] 73 HB1.out (len2_0 _ _) ?_; intro w2 HB2 hg2)
    have ho2 : Only w1 w2 (fun j => j = c) := Only.grown hg2 (Or.inl rfl)
    have HB3 : Hid (w2.heap[c]? = some (.cells #[.pointer (some ⟨w.heap.size, 0, none⟩), .int .u64 (cl : Int)] 73 (0, 0))) := HB2
    have c0 := cell_of_row _ _ 0 _ _ _ HB3.out
    go_wp2_with fail
    go_ret
    refine ⟨w.heap.size, _, rfl, ⟨HB3.out, by rw [h2, h3]; exact ob1.kept ho2 (fun j q e => by omega), by omega, fun k v q => by rw [h3] at q; cases q⟩, fun j q => hP j (by omega), ho1.tr ho2⟩
  · have c0 := cell_of_row _ _ 0 _ _ _ h1.blk
    go_enter Try.func33, Try.ntmps33
    go_wp2_with fail
    go_ret
    exact ⟨r, Y, rfl, h1, h2, Only.refl _ _⟩

set_option maxRecDepth 100000 in
set_option maxHeartbeats 800000 in
theorem w_clock {P : Nat → Prop} (w : World) (c cl n : Nat) (A : Int → Option V) (h : Cq P w c cl n A) :
    Calls Try.prog 29 #[.pointer (some ⟨c, 0, none⟩)] w fun e w' => e = .returned (.int .u64 (cl : Int)) ∧ w = w' := by
  have c1 := h.clock
  clear h
  go_enter Try.func29, Try.ntmps29
  go_wp2
  go_ret
  exact ⟨rfl, rfl⟩

set_option maxRecDepth 100000 in
set_option maxHeartbeats 800000 in
theorem w_len {P : Nat → Prop} (w : World) (c cl n : Nat) (A : Int → Option V) (h : Cq P w c cl n A) (hP : ∀ j, w.heap.size ≤ j → P j) :
    Calls Try.prog 28 #[.pointer (some ⟨c, 0, none⟩)] w fun e w' => e = .returned (.int .i64 (n : Int)) ∧ Cq P w' c cl n A ∧ Only w w' P := by
  have hall := all_any w c cl n A h hP
  have hPc := h.1
  clear h
  go_enter Try.func28, Try.ntmps28
  go_wp2_with fail
  refine hall.mono ?_
  rintro e w1 ⟨r, Y, rfl, h1, h2, o1⟩
  clear hall
  go_wp2_with fail
  refine (len_any r F45 n A Y w1 h1.ob).mono ?_
  rintro e w2 ⟨rfl, rfl⟩
  go_wp2_with fail
  go_ret
  exact ⟨rfl, ⟨hPc, Or.inr ⟨r, Y, h1, h2⟩⟩, o1.mono (fun j q => by rw [q]; exact hPc)⟩

set_option maxRecDepth 100000 in
set_option maxHeartbeats 800000 in
theorem w_drop0 {P : Nat → Prop} (w : World) (c cl n : Nat) (A : Int → Option V) (k : Int) (h : Cq P w c cl n A) (hk : (KL k).wf = true) (hA : A k = none) (hP : ∀ j, w.heap.size ≤ j → P j) :
    Calls Try.prog 23 #[.pointer (some ⟨c, 0, none⟩), .int .i64 k] w fun e w' => e = .returned (.bool false) ∧ Cq P w' c cl n A ∧ Only w w' P := by
  have hall := all_any w c cl n A h hP
  have hPc := h.1
  have HA := Lib.hid hA
  clear h hA
  go_enter Try.func23, Try.ntmps23
  go_wp2_with fail
  refine hall.mono ?_
  rintro e w1 ⟨r, Y, rfl, h1, h2, o1⟩
  clear hall
  go_wp2_with fail
  refine (drop_none n A Y k w1 h1.ob hk HA.out).mono ?_
  rintro e w2 ⟨rfl, rfl⟩
  go_wp2_with fail
  go_ret
  exact ⟨rfl, ⟨hPc, Or.inr ⟨r, Y, h1, h2⟩⟩, o1.mono (fun j q => by rw [q]; exact hPc)⟩

/-- Behind Drop of a key that is there. -/
theorem Ca.dropped {P : Nat → Prop} {w w' : World} {c r cl n n1 : Nat} {A : Int → Option V} {Y Y' : Nat → Prop} {k : Int} (h : Ca w c r cl n A Y) (hY : ∀ j, Y j → P j) (hP : ∀ j, w.heap.size ≤ j → P j) (g1 : Ob w' r F45 n1 (updZ A k none) Y') (g2 : ∀ j, Y' j → Y j ∨ w.heap.size ≤ j) (g5 : Only w w' (fun j => Y j ∨ False)) :
    Ca w' c r cl n1 (updZ A k none) Y' ∧ ∀ j, Y' j → P j := by
  have hc := lt_of_row h.blk
  refine ⟨⟨g5.blk (fun q => q.elim h.ne id) h.blk, g1, fun q => ?_, fun k' v q => ?_⟩, fun j q => ?_⟩
  · rcases g2 c q with q | q
    · exact h.ne q
    · omega
  · unfold updZ at q; split at q
    · cases q
    · exact h.ids k' v q
  · rcases g2 j q with q | q
    · exact hY j q
    · exact hP j q

set_option maxRecDepth 100000 in
set_option maxHeartbeats 800000 in
theorem w_drop {P : Nat → Prop} (w : World) (c cl n : Nat) (A : Int → Option V) (k : Int) (v : V) (h : Cq P w c cl n A) (hA : A k = some v) (hn : n < 1073741824) (n1 : Nat) (hn1 : n = n1 + 1) (hP : ∀ j, w.heap.size ≤ j → P j) :
    Calls Try.prog 23 #[.pointer (some ⟨c, 0, none⟩), .int .i64 k] w fun e w' => e = .returned (.bool true) ∧ Cq P w' c cl n1 (updZ A k none) ∧ Only w w' P := by
  have hall := all_any w c cl n A h hP
  have hPc := h.1
  have hk := (h.ids hA).2.2.1
  have HA := Lib.hid hA
  have HN1 := Lib.hid hn1
  clear h hA hn1
  go_enter Try.func23, Try.ntmps23
  go_wp2_with fail
  refine hall.mono ?_
  rintro e w1 ⟨r, Y, rfl, h1, h2, o1⟩
  clear hall
  go_wp2_with fail
  refine (drop_some (less45 r) n A Y k v w1 h1.ob hk HA.out hn 0 (by decide) trivial (fun _ q => q.elim) (fun _ q => q.elim) n1 HN1.out).mono ?_
  rintro e w2 ⟨rfl, Y', a, g1, g2, _, _, g5⟩
  have hP1 : ∀ j, w1.heap.size ≤ j → P j := fun j q => hP j (Nat.le_trans o1.size q)
  obtain ⟨h3, h4⟩ := h1.dropped h2 hP1 g1 g2 g5
  go_wp2_with fail
  go_ret
  exact ⟨rfl, ⟨hPc, Or.inr ⟨r, Y', h3, h4⟩⟩, (o1.mono (fun j q => by rw [q]; exact hPc)).tr (g5.mono (fun j q => q.elim (h2 j) (fun q => q.elim)))⟩
end Go.Proofs.Ytpagleilaaljoaa.W.HR
