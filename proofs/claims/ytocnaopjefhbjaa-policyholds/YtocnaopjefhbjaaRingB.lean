/- Contracts of a Ring's List, of Last, and of the document's example of package ring. -/
import Derived.Test.YtocnaopjefhbjaaRingA
namespace Go.Proofs.Ytocnaopjefhbjaa.W
open Go.RowKit

/-- A new row of numbers is answered, and nothing that was there has turned. -/
def NewI (w : World) (ys : List Int) (e : Ending) (w' : World) : Prop :=
  ∃ g cap m, Hid (m = ys.length) ∧ e = .returned (.slice (some ⟨g, 0, none⟩) m cap) ∧ w'.ownsRow w.heap.size 2 1 (.slice (some ⟨g, 0, none⟩) m cap) m (ints ys) ∧ Below w.heap.size w w'

theorem Rg.lies {w : World} {r : Nat} {ys : List Int} (h : Rg w r ys) : Lies w w.heap.size (some ⟨r, 0, none⟩) (ints ys) := by
  have hl := h.lt
  obtain ⟨zs, h1, h2⟩ := h
  intro j u hu
  refine ⟨_, rfl, hl, ?_⟩
  rw [add_lit0]
  refine cellL h2 j u ?_
  have hj := (List.getElem?_eq_some_iff.1 hu).1
  rw [List.getElem?_append_left (by simp at hj ⊢; omega)]
  show (List.map _ (ys ++ zs))[j]? = _
  rw [List.map_append, List.getElem?_append_left (by simpa using hj)]
  exact hu
theorem Rg.le8 {w : World} {r : Nat} {ys : List Int} (h : Rg w r ys) : ys.length ≤ 8 := by obtain ⟨zs, h1, _⟩ := h; omega
theorem Rg.cell8 {w : World} {r : Nat} {ys : List Int} (h : Rg w r ys) : w.cell? ⟨r, 8, none⟩ = some (.int .i64 (ys.length : Int)) := by
  obtain ⟨zs, h1, h2⟩ := h
  exact cellL h2 8 _ (by rw [List.getElem?_append_right (by simp; omega)]; simp [h1])

set_option maxRecDepth 100000 in
set_option maxHeartbeats 800000 in
theorem ring_list (r : Nat) (ys : List Int) (w : World) (h : Rg w r ys) :
    Calls Try.prog 25 #[.pointer (some ⟨r, 0, none⟩)] w (NewI w ys) := by
  obtain ⟨i0, hi, hz0, hz1, hz2⟩ := info_parts infoI
  have h8 := h.le8
  have hc := h.cell8
  have hr := h.lt
  obtain ⟨n, hn⟩ : ∃ n, ys.length = n := ⟨_, rfl⟩
  rw [hn] at h8 hc
  have h8i : (n : Int) ≤ 8 := by omega
  have HN := Lib.hid hn
  clear hn
  go_enter Try.func25, Try.ntmps25
  go_wp2_with (at_make; refine wpList_make_row rfl (.tmp 7) (.tmp 7) 22 rfl 2 i0 (.int .i64 0) Try.underlying22 hi hz0 hz1 rfl _ _ (n : Int) (n : Int) n n rfl rfl rfl rfl (by omega) (by rw [hz2]; omega) (by omega) ?_; intro w1 HG hg1 hs1)
  have h1 : Rg w1 r ys := h.keep (grown_below hg1) hr
  have hc1 := h1.cell8
  rw [HN.out] at hc1
  have HS := Lib.hid hs1
  clear hs1 hc h
  go_still_tail 9, (by kernel_rfl)
  change wpList _ _ _ _ _ w1.drew
  have hd := below_drewN (grown_below hg1) 1
  have HG2 : Hid (w1.drew.heap[w.heap.size]? = _) := HG
  have h2 : Rg w1.drew r ys := h1
  change Below _ w w1.drew at hd
  generalize w1.drew = w2 at hd HG2 h2 ⊢
  refine wpList_copy_new rfl (.tmp 9) (.tmp 17) 22 22 rfl 2 Try.underlying22 i0 hi hz1 w.heap.size n n (some ⟨r, 0, none⟩) 8 (ints ys) (.int .i64 0) w2.heap.size w.heap.size w rfl rfl HG2 (by simp [HN.out]) (by omega) (by omega) h2.lies (ones_i64 _) hd (Nat.le_refl _) ?_
  intro w3 own3 hb3 hlt3
  clear HG HG2 hg1 h1 hc1 hd h2
  go_wp2
  go_ret
  exact ⟨_, _, n, HN.out.symm, rfl, own3, hb3⟩

/-- The last few of a list, where they lie. -/
def LastI (w : World) (B : Nat) (xs : List Int) (e : Ending) (w' : World) : Prop :=
  ∃ A m c, Hid (m = (last8 xs).length) ∧ e = .returned (.slice A m c) ∧ Lies w B A (ints (last8 xs)) ∧ w = w'

set_option maxRecDepth 100000 in
set_option maxHeartbeats 800000 in
theorem last_any (A : Option Addr) (k c B : Nat) (xs : List Int) (w : World) (hk : k = xs.length) (hc : k ≤ c) (hl : k ≤ 1000000) (hA : Lies w B A (ints xs)) :
    Calls Try.prog 16 #[.slice A k c] w (LastI w B xs) := by
  obtain ⟨i0, hi, hz0, hz1, hz2⟩ := info_parts infoI
  have HK := Lib.hid hk
  clear hk
  by_cases h8 : 8 < k
  · have e8 : (k : Int) - 8 = ((k - 8 : Nat) : Int) := by omega
    go_enter Try.func16, Try.ntmps16
    go_wp2_with (with_reducible refine wpList_from rfl (.tmp 6) (.tmp 9) 22 rfl 2 i0 Try.underlying22 hi hz1 A k c (k - 8) .i64 rfl rfl (by omega) hc ?_; intro A' HA')
    go_ret
    refine ⟨A', k - (k - 8), c - (k - 8), ?_, rfl, ?_, rfl⟩
    · show _ = _; rw [last8_len, ← HK.out]; omega
    · have := hA.drop (k - 8) A' (fun h => by
        rcases HA'.out with h' | h'
        · exact h'
        · omega)
      rw [← List.map_drop, HK.out] at this
      exact this
  · go_enter Try.func16, Try.ntmps16
    go_wp2
    go_ret
    refine ⟨A, k, c, ?_, rfl, ?_, rfl⟩
    · show _ = _; rw [last8_len, ← HK.out]; omega
    · rw [last8_small (by rw [← HK.out]; omega)]; exact hA

def upto (n : Nat) : List Int := (List.range n).map (fun j : Nat => (j : Int) + 1)
theorem upto_succ (n : Nat) : upto (n + 1) = upto n ++ [(n : Int) + 1] := by simp [upto, List.range_succ]
theorem own_cellsI {w : World} {base : Nat} {e : TypeId} {g n cap : Nat} {ys : List Int} (h : w.ownsRow base e 1 (.slice (some ⟨g, 0, none⟩) n cap) n (ints ys)) (j : Nat) (x : Int) (hx : ys[j]? = some x) : w.cell? ⟨g, j, none⟩ = some (.int .i64 x) := by
  have := h.cells (g := g) rfl j (.int .i64 x) (by rw [List.getElem?_map, hx]; rfl)
  rwa [add_lit0] at this
end Go.Proofs.Ytocnaopjefhbjaa.W
