/- Contracts of the flags, and the document's example of package wire. -/
import Derived.Test.YtlbpbjemaepnmaaWireD
namespace Go.Proofs.Ytlbpbjemaepnmaa.W
open Go.RowKit

set_option maxRecDepth 100000 in
set_option maxHeartbeats 800000 in
theorem rflag_any (r a er : Nat) (bs : List Nat) (w : World) (h : Rd w r bs a er) :
    Calls Try.prog 20 #[.pointer (some ⟨r, 0, none⟩)] w fun e w' =>
      e = .returned (.bool (decide (nV bs a er 1 = 1))) ∧ Rd w' r bs (nA bs a er 1) (nE bs a er 1) ∧ w.grownBy w' (some r) := by
  go_enter Try.func20, Try.ntmps20
  go_wp2_with fail
  refine (num_any r a er 1 bs _ h).mono ?_
  rintro e w' ⟨rfl, hr, hg⟩
  go_wp2_with fail
  go_ret
  refine ⟨ret_bool ?_, hr, hg⟩
  rw [Bool.eq_iff_iff]; simp; omega

/-- A bool's byte. -/
def fB (on : Bool) : Nat := if on then 1 else 0
set_option maxRecDepth 100000 in
set_option maxHeartbeats 800000 in
theorem flag_any (A : Option Addr) (k c : Nat) (on : Bool) (bs : List Nat) (w : World) (hk : k = bs.length) (hA : Lies w w.heap.size A (bs.map bv)) (hl : k ≤ 1000000000) :
    Calls Try.prog 19 #[.slice A k c, .bool on] w (NewB w (bs ++ [fB on])) := by
  have HK := Lib.hid hk
  clear hk
  cases on
  · have hp := put_any A k c 0 bs w HK.out hA hl (by omega)
    rw [enc_small (by omega)] at hp
    have HP := Lib.hid hp
    clear hp
    go_enter Try.func19, Try.ntmps19
    go_wp2_with fail
    refine HP.out.mono ?_
    rintro e w' ⟨g, cap, m, HM, rfl, own, hb⟩
    go_wp2_with fail
    go_ret
    exact ⟨g, cap, m, HM, rfl, own, hb⟩
  · have hp := put_any A k c 1 bs w HK.out hA hl (by omega)
    rw [enc_small (by omega)] at hp
    have HP := Lib.hid hp
    clear hp
    go_enter Try.func19, Try.ntmps19
    go_wp2_with fail
    refine HP.out.mono ?_
    rintro e w' ⟨g, cap, m, HM, rfl, own, hb⟩
    go_wp2_with fail
    go_ret
    exact ⟨g, cap, m, HM, rfl, own, hb⟩

theorem enc_300 : enc 300 = [172, 2] := by rw [enc_big (by omega), enc_small (by omega)]
theorem own_cells {w : World} {base : Nat} {e : TypeId} {g n cap : Nat} {bs : List Nat} (h : w.ownsRow base e 1 (.slice (some ⟨g, 0, none⟩) n cap) n (bs.map bv)) (j x : Nat) (hx : bs[j]? = some x) : w.cell? ⟨g, j, none⟩ = some (bv x) := by
  have := h.cells (g := g) rfl j (bv x) (by rw [List.getElem?_map, hx]; rfl)
  rwa [add_lit0] at this
theorem own_cap {w : World} {base : Nat} {e : TypeId} {g n cap : Nat} {vs : List Value} (h : w.ownsRow base e 1 (.slice (some ⟨g, 0, none⟩) n cap) n vs) : n ≤ cap ∧ g < w.heap.size ∧ base ≤ g := by
  have hl := h.lt g rfl
  rcases h.2 with ⟨hv, _⟩ | ⟨g', cap', cur, hv, _, _, hnc, _⟩
  · cases hv
  · injection hv with _ _ hv; subst hv; exact ⟨hnc, hl.2, hl.1⟩

set_option maxRecDepth 100000 in
set_option maxHeartbeats 800000 in
theorem head_any (w : World) : Calls Try.prog 10 #[] w fun e w' => e = .returned (.bool true) ∧ Below w.heap.size w w' := by
  have hput := put_any (some ⟨w.heap.size, 0, none⟩) 1 1 300 [9] (w.alloc (.cells #[.int .u8 9] 5)) rfl (lies_one _ _ _) (by omega) (by omega)
  rw [enc_300] at hput
  have HP := Lib.hid hput
  clear hput
  have n1 : nV [172, 2] 0 0 1000 = 300 := by decide
  have n2 : nA [172, 2] 0 0 1000 = 2 := by decide
  have n3 : nE [172, 2] 0 0 1000 = 0 := by decide
  have n4 : moreB [172, 2] 2 0 = false := by decide
  have N1 := Lib.hid n1
  have N2 := Lib.hid n2
  have N3 := Lib.hid n3
  have N4 := Lib.hid n4
  clear n1 n2 n3 n4
  go_enter Try.func10, Try.ntmps10
  go_wp2_with fail
  refine HP.out.mono ?_
  rintro e w1 ⟨g, cap, m, HM, rfl, own, hb⟩
  obtain rfl : m = 3 := HM.out
  have c0 := own_cells own 0 9 rfl
  have c1 := own_cells own 1 172 rfl
  have c2 := own_cells own 2 2 rfl
  have hcap : 3 ≤ cap := (own_cap own).1
  have hL := lies_own own
  have hb1 := (Below.refl w.heap.size w).alloc (Nat.le_refl _) (.cells #[.int .u8 9] 5)
  have hb2 := hb1.trans (hb.mono (by simp))
  clear hb hb1 own
  go_wp2_with fail
  refine (read_any (some ⟨g, 1, none⟩) 2 _ [172, 2] _ rfl (hL.drop 1 (some ⟨g, 1, none⟩) (fun _ => rfl)) (by decide) (by omega)).mono ?_
  rintro e w2 ⟨r, rfl, hr, hR, hb3⟩
  have hb4 := hb2.trans (hb3.mono (by have := hb2.size; omega))
  have hr0 : w.heap.size ≤ r := by have := hb2.size; omega
  clear hb2 hb3 hr
  go_wp2_with fail
  refine (num_any r 0 0 1000 [172, 2] _ hR).mono ?_
  rintro e w3 ⟨rfl, hR3, hg3⟩
  rw [N2.out, N3.out] at hR3
  rw [N1.out]
  have hb5 := hb4.grown hg3 hb4.size (fun k hk => by injection hk with hk; omega)
  clear hb4 hg3 hR
  go_wp2_with fail
  refine (more_any r 2 0 [172, 2] _ hR3).mono ?_
  rintro e w4 ⟨rfl, q, rfl⟩
  rw [N4.out]
  have hR4 := hR3.drewN q
  have hb6 := below_drewN hb5 q
  clear hR3 hb5
  go_wp2_with fail
  refine (at_any r 2 0 [172, 2] _ hR4).mono ?_
  rintro e w5 ⟨rfl, rfl⟩
  go_wp2_with fail
  refine (err_any r 2 0 [172, 2] _ hR4).mono ?_
  rintro e w6 ⟨rfl, rfl⟩
  go_wp2_with fail
  go_ret
  exact ⟨rfl, hb6⟩
end Go.Proofs.Ytlbpbjemaepnmaa.W
