/- Package timer: At. -/
import Derived.Test.YtkldoeillkfpbaaTimA
namespace Go.Proofs.Ytkldoeillkfpbaa.W.HT
open Go.RowKit

theorem at_end {P Y : Nat → Prop} {w w4 : World} {c r n Z : Nat} {A : K → Option Int} (h4 : Ta w4 c r n A Y) (hY : ∀ j, Y j → P j) (o : Only w w4 P) (hZ : w.heap.size ≤ Z) (hYZ : ¬ Y Z) (hcZ : c ≠ Z) (hPc : P c) (v0 v1 v2 : Value) :
    Tq P (((w4.setCell ⟨Z, 0, none⟩ v0).setCell ⟨Z, 1, none⟩ v1).setCell ⟨Z, 2, none⟩ v2) c n A ∧ Only w (((w4.setCell ⟨Z, 0, none⟩ v0).setCell ⟨Z, 1, none⟩ v1).setCell ⟨Z, 2, none⟩ v2) P := by
  have hg : w4.grownBy (((w4.setCell ⟨Z, 0, none⟩ v0).setCell ⟨Z, 1, none⟩ v1).setCell ⟨Z, 2, none⟩ v2) (some Z) := grown_trans (grown_trans (grown_set w4 0 Z 0 v0) (grown_set _ 0 Z 1 v1)) (grown_set _ 0 Z 2 v2)
  have ho : Only w4 (((w4.setCell ⟨Z, 0, none⟩ v0).setCell ⟨Z, 1, none⟩ v1).setCell ⟨Z, 2, none⟩ v2) (fun j => j = Z) := Only.grown hg (Or.inl rfl)
  exact ⟨⟨hPc, Or.inr ⟨r, Y, h4.kept ho (fun q => hcZ q) (fun j q e => hYZ (by rw [← e]; exact q)), hY⟩⟩, o.trans ho (fun j q => by rw [q]; exact Or.inr hZ)⟩

set_option maxRecDepth 100000 in
set_option maxHeartbeats 800000 in
theorem t_at {P : Nat → Prop} (w : World) (c n : Nat) (A : K → Option Int) (k : K) (h : Tq P w c n A) (hk : kw k) (hn : n < 1073741824) (hP : ∀ j, w.heap.size ≤ j → P j) :
    Calls Try.prog 18 #[.pointer (some ⟨c, 0, none⟩), kv k] w fun e w' => e = .returned (.tuple #[.int .i64 ((A k).getD 0), .bool (A k).isSome]) ∧ Tq P w' c n A ∧ Only w w' P := by
  obtain ⟨v, bb, hv, h0, h0'⟩ : ∃ (v : V) (bb : Bool), (∀ (r : Nat) (Y : Nat → Prop) (w : World), Ob w r FS n (Mo A) Y → Calls Try.prog 36 #[.pointer (some ⟨r, 0, none⟩), kv k] w fun e w' => e = .returned (.tuple #[vv v, .bool bb]) ∧ Below w.heap.size w w') ∧ (A k).getD 0 = v.1 ∧ (A k).isSome = bb := by
    cases q : A k with
    | none => exact ⟨(0, 0, 0), false, fun r Y w hb => get_none r FS n (Mo A) Y w hb k hk (Mo_no q), rfl, rfl⟩
    | some t => exact ⟨(t, k), true, fun r Y w hb => get_some r FS n (Mo A) Y w hb k hk (t, k) (Mo_at q) hn, rfl, rfl⟩
  rw [h0, h0']
  clear h0 h0'
  go_enter Try.func18, Try.ntmps18
  go_upto_region 1 with (fail)
  have b1 : Below w.heap.size w (w.alloc (.cells #[.int .i64 k.1, .int .i64 k.2] 30)) := (Below.refl _ _).alloc (Nat.le_refl _) _
  have HBX := Lib.hid (heap_alloc_new w (.cells #[.int .i64 k.1, .int .i64 k.2] 30))
  obtain ⟨H, hH⟩ : ∃ H, w.heap.size = H := ⟨_, rfl⟩
  have hx : Tq (fun j => P j ∧ j ≠ H) (w.alloc (.cells #[.int .i64 k.1, .int .i64 k.2] 30)) c n A := (h.tight.below b1).mono (fun j q => ⟨q.1, by omega⟩)
  have hHc : H ≠ c := by have := h.lt; omega
  have hHw : w.heap.size ≤ H := by omega
  rw [hH] at HBX
  rw [hH]
  clear hH h
  have hHlt := lt_of_row HBX.out
  generalize w.alloc (.cells #[.int .i64 k.1, .int .i64 k.2] 30) = w1 at b1 HBX hx hHlt ⊢
  have hPx : ∀ j, w1.heap.size ≤ j → (fun j => P j ∧ j ≠ H) j := fun j q => ⟨hP j (Nat.le_trans b1.size q), by omega⟩
  have hPd : ∀ j, w1.drew.heap.size ≤ j → (fun j => P j ∧ j ≠ H) j := hPx
  have hxd : Tq (fun j => P j ∧ j ≠ H) w1.drew c n A := hx.kept ((Only.refl w1 (fun _ => False)).drewN 1) (fun _ _ q => q)
  have e0 := cell_of_row _ _ 0 _ _ _ HBX.out
  have e1 := cell_of_row _ _ 1 _ _ _ HBX.out
  have e0d : w1.drew.cell? ⟨H, 0, none⟩ = some (.int .i64 k.1) := e0
  have e1d : w1.drew.cell? ⟨H, 1, none⟩ = some (.int .i64 k.2) := e1
  have bd : Below w.heap.size w w1.drew := below_drewN b1 1
  have hZd : w1.drew.heap.size = w1.heap.size := rfl
  have bz : Below w.heap.size w (w1.drew.alloc (.cells #[.int .i64 0, .int .i64 0, .int .i64 0] 77)) := bd.alloc bd.size _
  have hxz : Tq (fun j => P j ∧ j ≠ w1.heap.size) (w1.drew.alloc (.cells #[.int .i64 0, .int .i64 0, .int .i64 0] 77)) c n A := ((hxd.tight.mono (P' := fun j => P j ∧ j ≠ w1.heap.size) (fun j q => ⟨q.1.1, by have := q.2; omega⟩)).kept ((Only.refl w1.drew (fun _ => False)).alloc _) (fun _ _ q => q))
  have hPz : ∀ j, (w1.drew.alloc (.cells #[.int .i64 0, .int .i64 0, .int .i64 0] 77)).heap.size ≤ j → (fun j => P j ∧ j ≠ w1.heap.size) j := fun j q => by rw [World.size_alloc] at q; exact ⟨hP j (by have := bd.size; omega), by omega⟩
  have HRZ : Hid ((w1.drew.alloc (.cells #[.int .i64 0, .int .i64 0, .int .i64 0] 77)).heap[w1.heap.size]? = some (.cells #[.int .i64 0, .int .i64 0, .int .i64 0] 77)) := Lib.hid (heap_alloc_new w1.drew _)
  have hcZ : c ≠ w1.heap.size := by have := hxd.lt; omega
  have hwZ : w.heap.size ≤ w1.heap.size := bd.size
  have hHZ : H ≠ w1.heap.size := by omega
  have e0z : (w1.drew.alloc (.cells #[.int .i64 0, .int .i64 0, .int .i64 0] 77)).cell? ⟨H, 0, none⟩ = some (.int .i64 k.1) := ((Only.refl w1.drew (fun _ => False)).alloc _).cell (fun q => q) e0d
  have e1z : (w1.drew.alloc (.cells #[.int .i64 0, .int .i64 0, .int .i64 0] 77)).cell? ⟨H, 1, none⟩ = some (.int .i64 k.2) := ((Only.refl w1.drew (fun _ => False)).alloc _).cell (fun q => q) e1d
  clear hZd
  go_region_with (first
    | (go_at_call 30; refine (all_any (P := fun j => P j ∧ j ≠ w1.heap.size) _ c n A hxz hPz).mono ?_; rintro e w3 ⟨r, Y, rfl, h3, h4, o3⟩; have f0 := o3.cell (x := ⟨H, 0, none⟩) hHc e0z; have f1 := o3.cell (x := ⟨H, 1, none⟩) hHc e1z; have hH3 : H < w3.heap.size := cell_lt f0; have HZ3 := Lib.hid (o3.blk (fun q => hcZ q.symm) HRZ.out))
    | (go_at_call 30; refine (all_any _ c n A hxd hPd).mono ?_; rintro e w3 ⟨r, Y, rfl, h3, h4, o3⟩; have f0 := o3.cell (x := ⟨H, 0, none⟩) hHc e0d; have f1 := o3.cell (x := ⟨H, 1, none⟩) hHc e1d; have hH3 : H < w3.heap.size := cell_lt f0)
    | (go_at_call 36; have hZY := fun q => (h4 _ q).2 rfl; have hZ3 := HZ3.out; refine (hv r Y _ h3.ob).mono ?_; rintro e w4 ⟨rfl, g5⟩; have HZ4 := Lib.hid ((Only.of_below (S := fun _ => False) g5).blk (fun q => q) hZ3); clear hZ3; have n0 := frozen_of_row w4 w1.heap.size 0 _ _ HZ4.out; have n1 := frozen_of_row w4 w1.heap.size 1 _ _ HZ4.out; have n2 := frozen_of_row w4 w1.heap.size 2 _ _ HZ4.out; have z0 := cell_of_row _ _ 0 _ _ _ HZ4.out; have z1 := cell_of_row _ _ 1 _ _ _ HZ4.out; have z2 := cell_of_row _ _ 2 _ _ _ HZ4.out)
    | (go_at_call 36; refine (hv r Y w3 h3.ob).mono ?_; rintro e w4 ⟨rfl, g5⟩)
    | (go_at_call 36; refine (hv r Y (w3.alloc (.cells #[.int .i64 0, .int .i64 0, .int .i64 0] 77)) (h3.ob.kept ((Only.refl w3 (fun _ => False)).alloc _) (fun _ _ q => q))).mono ?_; rintro e w4 ⟨rfl, g5⟩; have HZ4 := Lib.hid ((Only.of_below (S := fun _ => False) g5).blk (fun q => q) (heap_alloc_new w3 (.cells #[.int .i64 0, .int .i64 0, .int .i64 0] 77))); have n0 := frozen_of_row w4 w3.heap.size 0 _ _ HZ4.out; have n1 := frozen_of_row w4 w3.heap.size 1 _ _ HZ4.out; have n2 := frozen_of_row w4 w3.heap.size 2 _ _ HZ4.out; have z0 := cell_of_row _ _ 0 _ _ _ HZ4.out; have z1 := cell_of_row _ _ 1 _ _ _ HZ4.out; have z2 := cell_of_row _ _ 2 _ _ _ HZ4.out))
  all_goals first
    | (have hZY' := hZY
       go_wp2_with fail
       go_ret2
       have h5 := h3.kept (Only.of_below (S := fun _ => False) g5) (fun q => q) (fun _ _ q => q)
       have o4 : Only w w4 P := ((Only.of_below (S := P) bz).tr (o3.mono (fun j q => by rw [q]; exact hx.1.1))).tr (Only.of_below g5)
       obtain ⟨h6, h7⟩ := at_end h5 (fun j q => (h4 j q).1) o4 hwZ hZY hcZ hx.1.1 (.int .i64 v.1) (.int .i64 v.2.1) (.int .i64 v.2.2)
       exact ⟨rfl, h6, h7⟩)
    | (have hq4 := HZ4.out
       go_wp2_with fail
       go_ret2
       have b5 := Only.of_below (S := fun _ => False) g5
       have h5 := (h3.kept ((Only.refl w3 (fun _ => False)).alloc _) (fun q => q) (fun _ _ q => q)).kept b5 (fun q => q) (fun _ _ q => q)
       have o4 : Only w w4 P := ((((Only.of_below (S := P) b1).drewN 1).tr (o3.mono (fun j q => by rw [q]; exact hx.1.1))).alloc _).tr (Only.of_below g5)
       obtain ⟨h6, h7⟩ := at_end h5 (fun j q => (h4 j q).1) o4 (Nat.le_trans bd.size o3.size) (fun q => Nat.lt_irrefl _ (h3.ob.lt _ q)) (fun q => Nat.lt_irrefl w3.heap.size (by have := lt_of_row h3.blk; rw [q] at this; exact this)) hx.1.1 (.int .i64 v.1) (.int .i64 v.2.1) (.int .i64 v.2.2)
       exact ⟨rfl, h6, h7⟩)
    | (go_wp2_with fail
       go_ret2
       have h5 := (h3.kept (Only.of_below (S := fun _ => False) g5) (fun q => q) (fun _ _ q => q)).kept ((Only.refl w4 (fun _ => False)).alloc (.cells #[.int .i64 v.1, .int .i64 v.2.1, .int .i64 v.2.2] 77)) (fun q => q) (fun _ _ q => q)
       exact ⟨rfl, ⟨hx.1.1, Or.inr ⟨r, Y, h5, fun j q => (h4 j q).1⟩⟩, ((((Only.of_below (S := P) b1).drewN 1).tr (o3.mono (fun j q => by rw [q]; exact hx.1.1))).tr (Only.of_below g5)).alloc _⟩)
end Go.Proofs.Ytkldoeillkfpbaa.W.HT
