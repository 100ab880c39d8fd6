/- The law HistoTurns: its walk. -/
import Derived.Test.YtocnaopjefhbjaaHistoG
namespace Go.Proofs.Ytocnaopjefhbjaa.W
open Go.RowKit

/-- The idle times from a place on, round. -/
def rot (xs : List Int) (s i : Nat) : List Int := (List.range i).map (fun j => xs.getD ((j + s) % xs.length) 0)
theorem rot_len (xs : List Int) (s i : Nat) : (rot xs s i).length = i := by simp [rot]
theorem rot_succ {xs : List Int} {s i : Nat} {y : Int} (h : xs[(i + s) % xs.length]? = some y) : rot xs s (i + 1) = rot xs s i ++ [y] := by
  unfold rot
  rw [List.range_succ, List.map_append]
  simp [List.getD, h]
theorem rot_all (xs : List Int) (s : Nat) : rot xs s xs.length = xs.drop (s % xs.length) ++ xs.take (s % xs.length) := by
  apply List.ext_getElem?
  intro j
  rcases Nat.lt_or_ge j xs.length with h | h
  · have ht : s % xs.length < xs.length := Nat.mod_lt _ (by omega)
    have e : (j + s) % xs.length = if j + s % xs.length < xs.length then j + s % xs.length else j + s % xs.length - xs.length := by
      rw [Nat.add_mod, Nat.mod_eq_of_lt h]
      split
      · exact Nat.mod_eq_of_lt (by assumption)
      · rw [Nat.mod_eq_sub_mod (by omega), Nat.mod_eq_of_lt (by omega)]
    generalize s % xs.length = t at e ht ⊢
    have hl : (rot xs s xs.length)[j]? = some (xs.getD ((j + s) % xs.length) 0) := by
      unfold rot; rw [List.getElem?_map, List.getElem?_range h]; rfl
    rw [hl, e]
    split
    · rename_i q
      rw [List.getElem?_append_left (by simp; omega), List.getElem?_drop]
      rw [List.getD, Nat.add_comm j t, List.getElem?_eq_getElem (by omega)]; rfl
    · rename_i q
      rw [List.getElem?_append_right (by simp; omega), List.getElem?_take, List.length_drop, if_pos (by omega)]
      rw [List.getD, show j - (xs.length - t) = j + t - xs.length by omega, List.getElem?_eq_getElem (by omega)]; rfl
  · rw [List.getElem?_eq_none (by rw [rot_len]; exact h), List.getElem?_eq_none (by simp; omega)]
theorem rot_perm (xs : List Int) (s : Nat) : (rot xs s xs.length).Perm xs := by
  rw [rot_all]
  exact List.perm_append_comm.trans (by rw [List.take_append_drop])
theorem rot_cnt (xs : List Int) (s : Nat) : cnt (rot xs s xs.length) = cnt xs := by
  funext j; exact (rot_perm xs s).count_eq _
theorem rot_cntO (xs : List Int) (s : Nat) : cntO (rot xs s xs.length) = cntO xs := (rot_perm xs s).countP_eq _
theorem neg_same {w : World} {r o : Nat} {F : Nat → Nat} {x : Int} (h : Hs w r (aF F x) (aO o x)) (hx : x < 0) : Hs w r F o := by
  have ho : aO o x = o := by unfold aO; rw [if_neg (by omega)]; rfl
  rw [ho] at h
  exact h.ext (fun j _ => by unfold aF; rw [if_neg (by omega), Nat.add_zero])
theorem list_neg (r : Nat) (x : Int) (xs : List Int) (w : World) (h : Hl w r xs) (hx : x < 0) :
    Calls Try.prog 11 #[.pointer (some ⟨r, 0, none⟩), .int .i64 x] w fun e w' => e = .returned (.tuple #[]) ∧ Hl w' r xs ∧ w.grownBy w' (some r) := by
  refine (add_neg r _ x _ w h hx).mono ?_
  rintro e w' ⟨h1, h2, h3⟩
  exact ⟨h1, neg_same h2 hx, h3⟩
theorem own_bins {w : World} {base : Nat} {e : TypeId} {g n cap : Nat} {F : Nat → Nat} (h : w.ownsRow base e 1 (.slice (some ⟨g, 0, none⟩) n cap) n (bins F)) {j : Nat} (hj : j < 240) : w.cell? ⟨g, j, none⟩ = some (.int .i64 (F j : Int)) := by
  have := h.cells (g := g) rfl j _ (bins_at F hj)
  rwa [add_lit0] at this
end Go.Proofs.Ytocnaopjefhbjaa.W
