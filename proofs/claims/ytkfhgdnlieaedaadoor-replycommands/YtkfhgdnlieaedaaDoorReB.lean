/- Contracts of strings.Cut at a blank, reply.errOf, reply.whyOf, reply.guess. -/
import Derived.Test.YtkfhgdnlieaedaaDoorReA
import Derived.Deep.LoopGhost
namespace Go.Proofs.YtkfhgdnlieaedaaDoor.W
open Go.RowKit

set_option maxRecDepth 100000 in
set_option maxHeartbeats 1600000 in
theorem lite_cut (l : List UInt8) (w : World) (hlen : l.length ≤ 1000000000) :
    Calls Tryd.prog 27 #[.string (bst l), .string ⟨#[32]⟩] w fun e w' => e = .returned (.tuple #[sv (Lib.cut l [32]).1, sv (Lib.cut l [32]).2.1, .bool (Lib.cut l [32]).2.2]) ∧ Below w.heap.size w w' := by
  obtain ⟨s, hs⟩ : ∃ s, bst l = s := ⟨_, rfl⟩
  have hl : l = s.data.toList := by rw [← hs]; rfl
  have hsv : ∀ x : List UInt8, sv x = .string ⟨x.toArray⟩ := fun _ => rfl
  rw [hsv, hsv, hs]
  rw [hl] at hlen ⊢
  have hone : Lib.indexB s ⟨#[32]⟩ = Lib.indexByte s.data.toList 32 := Lib.index_one s.data.toList 32
  rcases Lib.indexB_cases s ⟨#[32]⟩ with hix | ⟨i, hix, hroom⟩
  · obtain ⟨e1, e2, e3⟩ := Lib.cutB_miss s ⟨#[32]⟩ hix
    have E1 := Lib.hid e1
    have E2 := Lib.hid e2
    have E3 := Lib.hid e3
    have HI := Lib.hid (hone.symm.trans hix)
    clear e1 e2 e3 hix hone hs hl hsv
    go_enter Tryd.func27, Tryd.ntmps27
    go_wp2_with fail
    refine (Tryd.stringslite_Index_one s 32 w).mono ?_
    rintro e w' ⟨rfl, rfl⟩
    rw [HI.out]
    go_wp2_with fail
    go_ret3
    refine ⟨?_, Below.refl _ _⟩
    have a1 := E1.out
    have a2 := E2.out
    have a3 := E3.out
    rw [a1, a2, a3]; rfl
  · obtain ⟨e1, e2, e3⟩ := Lib.cutB_hit s ⟨#[32]⟩ i hix
    have hsz : (⟨#[32]⟩ : ByteArray).size = 1 := rfl
    rw [hsz] at hroom e2
    have c1 : (0 : Int) ≤ ↑i := by omega
    have c2 : (↑i : Int) ≤ ↑s.size := by omega
    have c3 : (0 : Int) ≤ ↑i + 1 := by omega
    have c4 : (↑i + 1 : Int) ≤ ↑s.size := by omega
    have hss : s.size = s.data.toList.length := rfl
    have c5 : IntKind.i64.wrap ((i : Int) + 1) = (i : Int) + 1 := by rw [IntKind.wrap_i64]; omega
    have c6 : ((i : Int) + 1).toNat = i + 1 := by omega
    clear hss
    have E1 := Lib.hid e1
    have E2 := Lib.hid e2
    have E3 := Lib.hid e3
    have HI := Lib.hid (hone.symm.trans hix)
    clear e1 e2 e3 hix hone hs hl hsv
    go_enter Tryd.func27, Tryd.ntmps27
    go_wp2_with fail
    refine (Tryd.stringslite_Index_one s 32 w).mono ?_
    rintro e w' ⟨rfl, rfl⟩
    rw [HI.out]
    go_wp2_with fail
    go_region
    go_wp2
    go_ret3
    refine ⟨?_, below_drewN (Below.refl _ _) 1⟩
    have a1 := E1.out
    have a2 := E2.out
    have a3 := E3.out
    rw [a1, a2, a3]; try rfl

set_option maxRecDepth 100000 in
set_option maxHeartbeats 1600000 in
theorem cut_any (l : List UInt8) (w : World) (hlen : l.length ≤ 1000000000) :
    Calls Tryd.prog 19 #[.string (bst l), .string ⟨#[32]⟩] w fun e w' => e = .returned (.tuple #[sv (Lib.cut l [32]).1, sv (Lib.cut l [32]).2.1, .bool (Lib.cut l [32]).2.2]) ∧ Below w.heap.size w w' := by
  go_enter Tryd.func19, Tryd.ntmps19
  go_wp2_with fail
  refine (lite_cut l w hlen).mono ?_
  rintro e w' ⟨rfl, hb⟩
  go_wp2_with fail
  go_ret3
  exact ⟨rfl, hb⟩
theorem sv_eq (a b : List UInt8) : ((bst a).toList == (bst b).toList) = decide (a = b) := by
  rw [Lib.toList_data, Lib.toList_data, bst_list, bst_list]
  by_cases h : a = b
  · subst h; simp
  · simp [h]

set_option maxRecDepth 100000 in
set_option maxHeartbeats 1600000 in
theorem errOf_any (r : List UInt8) (w : World) : Calls Tryd.prog 20 #[.string (bst r)] w fun e w' => e = .returned (.int .i64 (eOf r)) ∧ Below w.heap.size w w' := by
  go_enter Tryd.func20, Tryd.ntmps20
  go_wp2_with fail
  go_loopg [3] 6 (fun gk vi wr => ∃ i : Nat, vi = .int .i64 ((i : Int) + 1) ∧ i + gk = 6 ∧ Hid (∀ j : Nat, j < i → wE ((j : Int) + 1) ≠ r) ∧ Below w.heap.size w wr)
  case atStart => exact ⟨0, rfl, by omega, Lib.hid (fun j q => absurd q (by omega)), Below.refl _ _⟩
  case round =>
    obtain ⟨i, rfl, hik, HI, bz⟩ := hrel
    have HIK := Lib.hid hik
    by_cases hi : i < 6
    · have hle : (i : Int) + 1 ≤ 6 := by omega
      clear hik
      go_wp2_with fail
      refine (err_word ((i : Int) + 1) wr).mono ?_
      rintro e w2 ⟨rfl, b2⟩
      have b3 : Below w.heap.size w w2 := bz.trans (b2.mono bz.size)
      by_cases he : wE ((i : Int) + 1) = r
      · have hv : eOf r = (i : Int) + 1 := by
          have : i = 0 ∨ i = 1 ∨ i = 2 ∨ i = 3 ∨ i = 4 ∨ i = 5 := by omega
          rw [← he]
          exact eOf_w (by omega) (by omega)
        have HV := Lib.hid hv
        have hb : ((bst (wE ((i : Int) + 1))).toList == (bst r).toList) = true := by rw [sv_eq]; simpa using he
        clear he hv
        go_wp2_with fail
        go_ret
        exact ⟨by rw [HV.out]; rfl, b3⟩
      · have hb : ((bst (wE ((i : Int) + 1))).toList == (bst r).toList) = false := by rw [sv_eq]; simpa using he
        have HE := Lib.hid he
        clear he
        go_wp2_with fail
        go_roundg (gk - 1)
        case measure => have := HIK.out; omega
        case rel => exact ⟨i + 1, by go_num, by have := HIK.out; omega, Lib.hid (fun j hj => by
          by_cases q : j = i
          · rw [q]; exact HE.out
          · exact HI.out j (by omega)), b3⟩
    · obtain rfl : i = 6 := by omega
      have hv : eOf r = 0 := by
        have h := HI.out
        have h1 : wE 1 ≠ r := h 0 (by omega)
        have h2 : wE 2 ≠ r := h 1 (by omega)
        have h3 : wE 3 ≠ r := h 2 (by omega)
        have h4 : wE 4 ≠ r := h 3 (by omega)
        have h5 : wE 5 ≠ r := h 4 (by omega)
        have h6 : wE 6 ≠ r := h 5 (by omega)
        unfold eOf
        rw [if_neg h1, if_neg h2, if_neg h3, if_neg h4, if_neg h5, if_neg h6]
      have HV := Lib.hid hv
      clear hik HIK hi hv
      go_wp2_with fail
      go_ret
      exact ⟨by rw [HV.out]; rfl, bz⟩

end Go.Proofs.YtkfhgdnlieaedaaDoor.W
