/- Contracts of event.next and event.Get. -/
import Derived.Test.YtkfhgdnlieaedaaEvD
import Derived.Test.YtkfhgdnlieaedaaPrt
namespace Go.Proofs.Ytkfhgdnlieaedaa.W
open Go.RowKit

theorem nV_le (bs : List Nat) (a er most : Nat) : nV bs a er most ≤ most := by
  unfold nV
  split
  · omega
  · split
    · omega
    · split <;> omega
theorem sizeI : (Try.prog.info? 3).map (·.size) = some 1 := by kernel_rfl
theorem IL.grown {w w' : World} {B r : Nat} {A : Option Addr} {xs : List Int} (h : IL w B A xs) (hg : w.grownBy w' (some r)) (hr : r < B) : IL w' B A xs := by
  rcases h with h | ⟨g, h1, h2, h3⟩
  · exact Or.inl h
  · exact Or.inr ⟨g, h1, h2, row_kept h3 hg (by omega)⟩
theorem IL.row {w : World} {B : Nat} {A : Option Addr} {xs : List Int} (h : IL w B A xs) (hx : 0 < xs.length) : ∃ g, A = some ⟨g, 0, none⟩ ∧ B ≤ g ∧ w.heap[g]? = some (.cells (ints xs).toArray 3 (0, 0)) := by
  rcases h with ⟨_, rfl⟩ | h
  · simp at hx
  · exact h
/-- The numbers so far, and noughts. -/
def fill (vs : List Nat) (n : Nat) : List Int := ints_ vs ++ List.replicate n 0
theorem fill_len (vs : List Nat) (n : Nat) : (fill vs n).length = vs.length + n := by simp [fill, ints_]
theorem fill_set (vs : List Nat) (n x : Nat) : (ints (fill vs (n + 1))).set vs.length (.int .i64 (x : Int)) = ints (fill (vs ++ [x]) n) := by
  simp [fill, ints_, List.replicate_succ]
theorem fill_zero (vs : List Nat) : fill vs 0 = ints_ vs := by simp [fill]
theorem nums_none (k : Int) : nums ⟨k, 0, 0, 0, 0, 0, 0, 0, 0, 0⟩ = fill [] (cnt k) := by
  unfold nums cnt
  by_cases h0 : k = 0
  · simp [h0, fill, ints_]
  · by_cases h1 : k = 1
    · simp [h1, fill, ints_, List.replicate]
    · by_cases h2 : k = 2
      · simp [h2, fill, ints_, List.replicate]
      · by_cases h3 : k = 3
        · simp [h3, fill, ints_, List.replicate]
        · simp [h0, h1, h2, h3, fill, ints_]

set_option maxRecDepth 100000 in
set_option maxHeartbeats 3200000 in
theorem next_any (r a : Nat) (bs : List Nat) (w : World) (h : Rd w r bs a 0) :
    Calls Try.prog 25 #[.pointer (some ⟨r, 0, none⟩)] w fun e w' => e = .returned (ev (nxE bs a)) ∧ Rd w' r bs (nxA bs a) (nxF bs a) ∧ Only w w' (fun j => j = r) := by
  have hrw := h.lt
  have b0 : Below w.heap.size w (w.alloc (.cells #[.int .i64 0, .int .i64 0, .int .i64 0, .int .i64 0, .int .i64 0, .int .i64 0, .int .i64 0, .int .i64 0, .int .i64 0, .int .i64 0] 27)) := (Below.refl _ _).alloc (Nat.le_refl _) _
  have hbox := heap_alloc_new w (.cells #[.int .i64 0, .int .i64 0, .int .i64 0, .int .i64 0, .int .i64 0, .int .i64 0, .int .i64 0, .int .i64 0, .int .i64 0, .int .i64 0] 27)
  have h0 := h.keep b0 hrw
  have hs0 : (w.alloc (.cells #[.int .i64 0, .int .i64 0, .int .i64 0, .int .i64 0, .int .i64 0, .int .i64 0, .int .i64 0, .int .i64 0, .int .i64 0, .int .i64 0] 27)).heap.size = w.heap.size + 1 := by simp
  go_enter Try.func25, Try.ntmps25
  go_wp2_with fail
  obtain ⟨c0, hc0⟩ : ∃ c0, w.heap.size = c0 := ⟨_, rfl⟩
  rw [hc0] at hbox b0 hrw hs0
  try rw [hc0]
  have o0 := Only.of_below (S := fun j => j = r) (hc0 ▸ b0)
  generalize w.alloc (.cells #[.int .i64 0, .int .i64 0, .int .i64 0, .int .i64 0, .int .i64 0, .int .i64 0, .int .i64 0, .int .i64 0, .int .i64 0, .int .i64 0] 27) = w1 at hbox b0 h0 hs0 o0 ⊢
  refine (num_any r a 0 9 bs _ h0).mono ?_
  rintro e w2 ⟨rfl, h2, g2⟩
  have hbox2 := row_kept hbox g2 (by omega)
  have o2 := o0.tr (Only.grown g2 (Or.inl rfl))
  have hs2 : c0 + 1 ≤ w2.heap.size := by have := g2.size; omega
  have hk9 := nV_le bs a 0 9
  obtain ⟨k, hk⟩ : ∃ k, nV bs a 0 9 = k := ⟨_, rfl⟩
  rw [hk] at hk9
  rw [hk]
  have HKK := Lib.hid hk
  clear hbox b0 h0 hs0 o0 g2 hk h
  go_wp2_with fail
  refine (numbers_any (k : Int) 0 0 0 0 0 0 0 0 0 w2).mono ?_
  rintro e w3 ⟨A, L, HL, rfl, hIL, hb3⟩
  rw [nums_none] at HL hIL
  have hL : L = cnt k := by rw [HL.out, fill_len]; simp
  have hL6 : L ≤ 6 := by rw [hL]; exact cnt_le _
  have hbox3 := (Only.of_below (S := fun _ => False) hb3).blk (fun q => q) hbox2
  have h3 := h2.keep hb3 h2.lt
  have o3 := o2.tr (Only.of_below hb3)
  have hgB : w2.heap.size ≤ w3.heap.size := hb3.size
  obtain ⟨B, hB⟩ : ∃ B, w2.heap.size = B := ⟨_, rfl⟩
  rw [hB] at hs2 hIL hgB
  rw [← hL] at hIL
  have HLC := Lib.hid hL
  clear hB hbox2 h2 o2 hb3 hL HL
  go_wp2_with fail
  go_loopg [14] L (fun gk vi wr => ∃ (i a2 e2 : Nat) (vs : List Nat), vi = .int .i64 (i : Int) ∧ i + gk = L ∧ Hid (vs.length = i) ∧ Rd wr r bs a2 e2 ∧ Hid (rds bs L (nA bs a 0 9) (nE bs a 0 9) = (vs ++ (rds bs gk a2 e2).1, (rds bs gk a2 e2).2)) ∧ IL wr B A (fill vs gk) ∧ wr.heap[c0]? = some (.cells #[.int .i64 0, .int .i64 0, .int .i64 0, .int .i64 0, .int .i64 0, .int .i64 0, .int .i64 0, .int .i64 0, .int .i64 0, .int .i64 0] 27) ∧ Only w wr (fun j => j = r) ∧ B ≤ wr.heap.size)
  case atStart => exact ⟨0, _, _, [], rfl, by omega, rfl, h3, by show _ = _; simp, hIL, hbox3, o3, hgB⟩
  case round =>
    clear h3 hIL hbox3 o3 hgB
    obtain ⟨i, a2, e2, vs, rfl, hik, HV, hR, HRD, hIL, hbox, o4, hBs⟩ := hrel
    have HIK := Lib.hid hik
    by_cases hi : i < L
    · obtain ⟨n, hn⟩ : ∃ n, gk = n + 1 := ⟨gk - 1, by omega⟩
      subst hn
      obtain ⟨g, rfl, hBg, hrow⟩ := hIL.row (by rw [fill_len]; omega)
      have hM := nV_le bs a2 e2 2147483647
      have hgr : g ≠ r := by omega
      clear hik hIL
      go_wp2_with fail
      refine (num_any r a2 e2 2147483647 bs _ hR).mono ?_
      rintro e w5 ⟨rfl, h5, g5⟩
      have hrow5 := row_kept hrow g5 hgr
      have hbox5 := row_kept hbox g5 (by omega)
      have o5 := o4.tr (Only.grown g5 (Or.inl rfl))
      have hs5 : B ≤ w5.heap.size := Nat.le_trans hBs g5.size
      obtain ⟨x, hx⟩ : ∃ x, nV bs a2 e2 2147483647 = x := ⟨_, rfl⟩
      rw [hx] at hM
      rw [hx]
      have HX := Lib.hid hx
      have HROW := Lib.hid hrow5
      have hlen : i < (ints (fill vs (n + 1))).length := by rw [List.length_map, fill_len, HV.out]; omega
      clear hrow hbox hR o4 hBs g5 hx hrow5
      go_wp2_with (with_reducible refine wpList_store_in rfl _ _ _ rfl sizeI g i rfl .i64 (x : Int) rfl (ints (fill vs (n + 1))) 3 HROW.out hlen ?_; intro w6 HG6 hg6)
      have h6 := h5.keep ((Only.grown (S := fun j => j = g) hg6 (Or.inl rfl)).below (B := r + 1) (fun j q => by omega) (by have := h5.lt; omega)) (by omega)
      have hbox6 := row_kept hbox5 hg6 (by omega)
      have o6 := o5.trans (S' := fun j => j = g) (Only.grown hg6 (Or.inl rfl)) (fun j q => Or.inr (by omega))
      go_roundg n
      case measure => omega
      case rel =>
        refine ⟨i + 1, _, _, vs ++ [x], by go_num, by have := HIK.out; omega, by show _ = _; simp [HV.out], h6, ?_, Or.inr ⟨g, rfl, hBg, ?_⟩, hbox6, o6, Nat.le_trans hs5 hg6.size⟩
        · show _ = _
          rw [HRD.out, rds, HX.out]; simp
        · have := HG6.out
          rw [← HV.out, fill_set] at this
          exact this
    · obtain rfl : i = L := by omega
      obtain rfl : gk = 0 := by omega
      rw [fill_zero] at hIL
      have hrd : rds bs i (nA bs a 0 9) (nE bs a 0 9) = (vs, a2, e2) := by rw [HRD.out]; simp [rds]
      have hF : nxE bs a = mk (k : Int) (nth (ints_ vs)) ∧ nxA bs a = a2 ∧ nxF bs a = e2 := by
        have hR2 : nxR bs a = (vs, a2, e2) := by unfold nxR; rw [← hrd]; unfold nxK; rw [HKK.out, ← HLC.out]
        refine ⟨?_, by unfold nxA; rw [hR2], by unfold nxF; rw [hR2]⟩
        unfold nxE
        rw [hR2]; unfold nxK; rw [HKK.out]
      have HF := Lib.hid hF
      have hvl : (ints_ vs).length = cnt k := by unfold ints_; rw [List.length_map, HV.out, HLC.out]
      have hvi : i = (ints_ vs).length := by unfold ints_; rw [List.length_map, HV.out]
      have HVL := Lib.hid hvl
      have HVI := Lib.hid hvi
      clear hik HIK hrd hF HRD hvl hvi
      go_wp2_with fail
      refine (made_any (k : Int) A i B (ints_ vs) _ HVL.out HVI.out hIL).mono ?_
      rintro e w5 ⟨rfl, b5⟩
      have h5 := hR.keep b5 hR.lt
      have HB := Lib.hid ((Only.of_below (S := fun _ => False) b5).blk (fun q => q) hbox)
      have o5 := o4.tr (Only.of_below b5)
      obtain ⟨⟨q0, q1, q2, q3, q4, q5, q6, q7, q8, q9⟩, hq⟩ : ∃ q, mk (k : Int) (nth (ints_ vs)) = q := ⟨_, rfl⟩
      have HQ := Lib.hid hq
      rw [hq]
      clear hIL hbox hR o4 b5 hq
      dsimp only [ev]
      go_wp2_with (with_reducible refine wpList_store_ev rfl _ _ rfl c0 q0 q1 q2 q3 q4 q5 q6 q7 q8 q9 rfl rfl 0 0 0 0 0 0 0 0 0 0 HB ?_; intro w6 HG hg6)
      have h6 := h5.keep ((Only.grown (S := fun j => j = c0) hg6 (Or.inl rfl)).below (B := r + 1) (fun j q => by omega) (by have := h5.lt; omega)) (by omega)
      have o6 := o5.trans (S' := fun j => j = c0) (Only.grown hg6 (Or.inl rfl)) (fun j q => Or.inr (by omega))
      refine bodyPost_ret (ret_ev (fn := Try.f25) rfl rfl HG) rfl ⟨?_, ?_, o6⟩
      · rw [HF.out.1, HQ.out]
      · rw [HF.out.2.1, HF.out.2.2]; exact h6

end Go.Proofs.Ytkfhgdnlieaedaa.W
