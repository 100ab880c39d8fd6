/- Package audit's law: a step's beginning. Made by mk_auw.py. -/
import Derived.Test.YtgpookphacdgoaaAuV
import Derived.StillTailTactics
namespace Go.Proofs.Ytgpookphacdgoaa.W.U
open Go.RowKit Go.Maps Go.ChangeMaps Go.MapKept Go.Proofs.Ytgpookphacdgoaa.W

/-- One cell of one item turns. -/
theorem Row.cellset {I : Type} {ic : I → List Value} {sz : Nat} {t : TypeId} {w : World} {g n cap : Nat} {T : Nat → I} (E : Enc ic sz) (h : Row ic sz t w g n cap T) {k c : Nat} (hk : k < n) (hc : c < sz) {x : I} {u : Value} (hx : ic x = (ic (T k)).set c u) :
    ∃ cur : List Value, w.heap[g]? = some (.cells cur.toArray t (0, 0)) ∧ k * sz + c < cur.length ∧ ∀ w', w'.heap[g]? = some (.cells (cur.set (k * sz + c) u).toArray t (0, 0)) → Row ic sz t w' g n cap (upd T k x) := by
  obtain ⟨cur, h1, h2, h3, h4, h5⟩ := h
  have hkc : (k + 1) * sz ≤ cap * sz := Nat.mul_le_mul_right _ (by omega)
  rw [Nat.add_mul, Nat.one_mul] at hkc
  refine ⟨cur, h1, by omega, fun w' hw => ⟨_, hw, by rw [List.length_set]; exact h2, h3, h4, fun j hj d v hv => ?_⟩⟩
  by_cases e : j = k
  · subst e
    rw [upd_same, hx] at hv
    by_cases e2 : d = c
    · subst e2
      have hl : d < (ic (T j)).length := by rw [E.len]; exact hc
      rw [List.getElem?_set_self hl] at hv
      rw [List.getElem?_set_self (by omega)]; exact hv
    · rw [List.getElem?_set_ne (by omega)] at hv
      rw [List.getElem?_set_ne (by omega)]; exact h5 j hj d v hv
  · rw [upd_ne _ _ e] at hv
    have hd : d < sz := by rw [← E.len (T j)]; exact (List.getElem?_eq_some_iff.1 hv).1
    rw [List.getElem?_set_ne]
    · exact h5 j hj d v hv
    · rcases Nat.lt_or_ge j k with t | t
      · have : (j + 1) * sz ≤ k * sz := Nat.mul_le_mul_right _ (by omega)
        rw [Nat.add_mul, Nat.one_mul] at this; omega
      · have : (k + 1) * sz ≤ j * sz := Nat.mul_le_mul_right _ (by omega)
        rw [Nat.add_mul, Nat.one_mul] at this; omega
theorem boT_set {L : List Bv} {k : Nat} (hk : k < L.length) (b : Bv) (j : Nat) : upd (boT L) k b j = boT (L.set k b) j := by
  by_cases e : j = k
  · subst e; rw [upd_same]; exact (boT_at (by rw [List.getElem?_set_self hk])).symm
  · rw [upd_ne _ _ e]
    unfold boT
    rw [List.getD_eq_getElem?_getD, List.getD_eq_getElem?_getD, List.getElem?_set_ne (fun t => e t.symm)]


set_option maxRecDepth 100000 in
set_option maxHeartbeats 3200000 in
theorem l_step1 {w : World} {q gs gm : Nat} {G : Option Nat} {W : Wd} {N : Nat} (h : Wl w q gs gm G W N) {e0 e1 e2 e3 e4 e5 e6 e7 e8 e9 a0 a1 a2 a3 : Int} {sA : Option Addr} {sl sc : Nat} {cs : List Cmd} (hr : ¬ right ⟨e0, e1, e2, e3, e4, e5, e6, e7, e8, e9⟩) : Calls Try.prog 10 #[ptr q, .agg #[.int .i64 e0, .int .i64 e1, .int .i64 e2, .int .i64 e3, .int .i64 e4, .int .i64 e5, .int .i64 e6, .int .i64 e7, .int .i64 e8, .int .i64 e9, .int .i64 a0, .int .i64 a1, .int .i64 a2, .int .i64 a3, .slice sA sl sc]] w (Lr w q gs gm G N (stp W (⟨e0, e1, e2, e3, e4, e5, e6, e7, e8, e9⟩, ⟨a0, a1, a2, a3⟩, cs))) := by
  have HR := Lib.hid hr
  go_enter Try.func10, Try.ntmps10
  go_wp2_with fail
  have r0 := heap_alloc_new w (.cells #[.int .i64 e0, .int .i64 e1, .int .i64 e2, .int .i64 e3, .int .i64 e4, .int .i64 e5, .int .i64 e6, .int .i64 e7, .int .i64 e8, .int .i64 e9, .int .i64 a0, .int .i64 a1, .int .i64 a2, .int .i64 a3, .slice sA sl sc] 34)
  have r1 := heap_alloc_new (w.alloc (.cells #[.int .i64 e0, .int .i64 e1, .int .i64 e2, .int .i64 e3, .int .i64 e4, .int .i64 e5, .int .i64 e6, .int .i64 e7, .int .i64 e8, .int .i64 e9, .int .i64 a0, .int .i64 a1, .int .i64 a2, .int .i64 a3, .slice sA sl sc] 34)) (.cells #[.int .i64 e0, .int .i64 e1, .int .i64 e2, .int .i64 e3, .int .i64 e4, .int .i64 e5, .int .i64 e6, .int .i64 e7, .int .i64 e8, .int .i64 e9] 26)
  have r2 := heap_alloc_new ((w.alloc (.cells #[.int .i64 e0, .int .i64 e1, .int .i64 e2, .int .i64 e3, .int .i64 e4, .int .i64 e5, .int .i64 e6, .int .i64 e7, .int .i64 e8, .int .i64 e9, .int .i64 a0, .int .i64 a1, .int .i64 a2, .int .i64 a3, .slice sA sl sc] 34)).alloc (.cells #[.int .i64 e0, .int .i64 e1, .int .i64 e2, .int .i64 e3, .int .i64 e4, .int .i64 e5, .int .i64 e6, .int .i64 e7, .int .i64 e8, .int .i64 e9] 26)) (.cells #[.int .i64 a0, .int .i64 a1, .int .i64 a2, .int .i64 a3] 31)
  have k1 := (Only.refl (w.alloc (.cells #[.int .i64 e0, .int .i64 e1, .int .i64 e2, .int .i64 e3, .int .i64 e4, .int .i64 e5, .int .i64 e6, .int .i64 e7, .int .i64 e8, .int .i64 e9, .int .i64 a0, .int .i64 a1, .int .i64 a2, .int .i64 a3, .slice sA sl sc] 34)) (fun _ => False)).alloc (.cells #[.int .i64 e0, .int .i64 e1, .int .i64 e2, .int .i64 e3, .int .i64 e4, .int .i64 e5, .int .i64 e6, .int .i64 e7, .int .i64 e8, .int .i64 e9] 26)
  have k2 := (Only.refl ((w.alloc (.cells #[.int .i64 e0, .int .i64 e1, .int .i64 e2, .int .i64 e3, .int .i64 e4, .int .i64 e5, .int .i64 e6, .int .i64 e7, .int .i64 e8, .int .i64 e9, .int .i64 a0, .int .i64 a1, .int .i64 a2, .int .i64 a3, .slice sA sl sc] 34)).alloc (.cells #[.int .i64 e0, .int .i64 e1, .int .i64 e2, .int .i64 e3, .int .i64 e4, .int .i64 e5, .int .i64 e6, .int .i64 e7, .int .i64 e8, .int .i64 e9] 26)) (fun _ => False)).alloc (.cells #[.int .i64 a0, .int .i64 a1, .int .i64 a2, .int .i64 a3] 31)
  have r0' := k2.blk (fun t => t) (k1.blk (fun t => t) r0)
  have r1' := k2.blk (fun t => t) r1
  rw [World.size_alloc] at r1'
  rw [World.size_alloc, World.size_alloc] at r2
  have bb := ((((Below.refl w.heap.size w).alloc (Nat.le_refl _) (.cells #[.int .i64 e0, .int .i64 e1, .int .i64 e2, .int .i64 e3, .int .i64 e4, .int .i64 e5, .int .i64 e6, .int .i64 e7, .int .i64 e8, .int .i64 e9, .int .i64 a0, .int .i64 a1, .int .i64 a2, .int .i64 a3, .slice sA sl sc] 34))).alloc (by rw [World.size_alloc]; omega) (.cells #[.int .i64 e0, .int .i64 e1, .int .i64 e2, .int .i64 e3, .int .i64 e4, .int .i64 e5, .int .i64 e6, .int .i64 e7, .int .i64 e8, .int .i64 e9] 26)).alloc (by rw [World.size_alloc, World.size_alloc]; omega) (.cells #[.int .i64 a0, .int .i64 a1, .int .i64 a2, .int .i64 a3] 31)
  have h1 := h.below bb
  have O1 := Lib.hid (Only.of_below (S := Ow q gs gm G) bb)
  have hnn : ∀ j, Ow q gs gm G j → j < w.heap.size := fun j t => h.lt t
  obtain ⟨Hs, hHs⟩ : ∃ z, w.heap.size = z := ⟨_, rfl⟩
  have HLE : Hid (w.heap.size ≤ Hs) := Lib.hid (by omega)
  rw [hHs] at r0' r1' r2 hnn
  try rw [hHs]
  have HNN := Lib.hid hnn
  clear hHs bb r0 r1 k1 k2 h hnn
  generalize ((w.alloc (.cells #[.int .i64 e0, .int .i64 e1, .int .i64 e2, .int .i64 e3, .int .i64 e4, .int .i64 e5, .int .i64 e6, .int .i64 e7, .int .i64 e8, .int .i64 e9, .int .i64 a0, .int .i64 a1, .int .i64 a2, .int .i64 a3, .slice sA sl sc] 34)).alloc (.cells #[.int .i64 e0, .int .i64 e1, .int .i64 e2, .int .i64 e3, .int .i64 e4, .int .i64 e5, .int .i64 e6, .int .i64 e7, .int .i64 e8, .int .i64 e9] 26)).alloc (.cells #[.int .i64 a0, .int .i64 a1, .int .i64 a2, .int .i64 a3] 31) = w1 at r0' r1' r2 h1 O1 ⊢
  have RS1 := Lib.hid r0'
  have RE1 := Lib.hid r1'
  have RA1 := Lib.hid r2
  clear r0' r1' r2
  refine (lright_any e0 e1 e2 e3 e4 e5 e6 e7 e8 e9 w1 false ⟨fun t => (nomatch t), fun t => absurd t HR.out⟩).mono ?_
  rintro r1 w2 ⟨rfl, bx⟩
  have h2 := h1.below bx
  have O2 : Hid (Only w w2 (Ow q gs gm G)) := Lib.hid (O1.out.tr (Only.of_below bx))
  have RS2 : Hid (w2.heap[Hs]? = some (.cells #[.int .i64 e0, .int .i64 e1, .int .i64 e2, .int .i64 e3, .int .i64 e4, .int .i64 e5, .int .i64 e6, .int .i64 e7, .int .i64 e8, .int .i64 e9, .int .i64 a0, .int .i64 a1, .int .i64 a2, .int .i64 a3, .slice sA sl sc] 34 (0, 0))) := Lib.hid (by rw [bx.block _ (lt_of_row RS1.out)]; exact RS1.out)
  have RE2 : Hid (w2.heap[(Hs + 1)]? = some (.cells #[.int .i64 e0, .int .i64 e1, .int .i64 e2, .int .i64 e3, .int .i64 e4, .int .i64 e5, .int .i64 e6, .int .i64 e7, .int .i64 e8, .int .i64 e9] 26 (0, 0))) := Lib.hid (by rw [bx.block _ (lt_of_row RE1.out)]; exact RE1.out)
  have RA2 : Hid (w2.heap[(Hs + 1 + 1)]? = some (.cells #[.int .i64 a0, .int .i64 a1, .int .i64 a2, .int .i64 a3] 31 (0, 0))) := Lib.hid (by rw [bx.block _ (lt_of_row RA1.out)]; exact RA1.out)
  clear h1 O1 RS1 RE1 RA1 bx
  go_wp2
  go_ret
  exact ⟨O2.out, Or.inl ⟨stp_bad (Or.inl HR.out), rfl⟩⟩

set_option maxRecDepth 100000 in
set_option maxHeartbeats 3200000 in
theorem l_step2 {w : World} {q gs gm : Nat} {G : Option Nat} {W : Wd} {N : Nat} (h : Wl w q gs gm G W N) {e0 e1 e2 e3 e4 e5 e6 e7 e8 e9 a0 a1 a2 a3 : Int} {sA : Option Addr} {sl sc : Nat} {cs : List Cmd} (hr : right ⟨e0, e1, e2, e3, e4, e5, e6, e7, e8, e9⟩) (ha : ¬ okA ⟨a0, a1, a2, a3⟩) : Calls Try.prog 10 #[ptr q, .agg #[.int .i64 e0, .int .i64 e1, .int .i64 e2, .int .i64 e3, .int .i64 e4, .int .i64 e5, .int .i64 e6, .int .i64 e7, .int .i64 e8, .int .i64 e9, .int .i64 a0, .int .i64 a1, .int .i64 a2, .int .i64 a3, .slice sA sl sc]] w (Lr w q gs gm G N (stp W (⟨e0, e1, e2, e3, e4, e5, e6, e7, e8, e9⟩, ⟨a0, a1, a2, a3⟩, cs))) := by
  have HR := Lib.hid hr
  have HA := Lib.hid ha
  go_enter Try.func10, Try.ntmps10
  go_wp2_with fail
  have r0 := heap_alloc_new w (.cells #[.int .i64 e0, .int .i64 e1, .int .i64 e2, .int .i64 e3, .int .i64 e4, .int .i64 e5, .int .i64 e6, .int .i64 e7, .int .i64 e8, .int .i64 e9, .int .i64 a0, .int .i64 a1, .int .i64 a2, .int .i64 a3, .slice sA sl sc] 34)
  have r1 := heap_alloc_new (w.alloc (.cells #[.int .i64 e0, .int .i64 e1, .int .i64 e2, .int .i64 e3, .int .i64 e4, .int .i64 e5, .int .i64 e6, .int .i64 e7, .int .i64 e8, .int .i64 e9, .int .i64 a0, .int .i64 a1, .int .i64 a2, .int .i64 a3, .slice sA sl sc] 34)) (.cells #[.int .i64 e0, .int .i64 e1, .int .i64 e2, .int .i64 e3, .int .i64 e4, .int .i64 e5, .int .i64 e6, .int .i64 e7, .int .i64 e8, .int .i64 e9] 26)
  have r2 := heap_alloc_new ((w.alloc (.cells #[.int .i64 e0, .int .i64 e1, .int .i64 e2, .int .i64 e3, .int .i64 e4, .int .i64 e5, .int .i64 e6, .int .i64 e7, .int .i64 e8, .int .i64 e9, .int .i64 a0, .int .i64 a1, .int .i64 a2, .int .i64 a3, .slice sA sl sc] 34)).alloc (.cells #[.int .i64 e0, .int .i64 e1, .int .i64 e2, .int .i64 e3, .int .i64 e4, .int .i64 e5, .int .i64 e6, .int .i64 e7, .int .i64 e8, .int .i64 e9] 26)) (.cells #[.int .i64 a0, .int .i64 a1, .int .i64 a2, .int .i64 a3] 31)
  have k1 := (Only.refl (w.alloc (.cells #[.int .i64 e0, .int .i64 e1, .int .i64 e2, .int .i64 e3, .int .i64 e4, .int .i64 e5, .int .i64 e6, .int .i64 e7, .int .i64 e8, .int .i64 e9, .int .i64 a0, .int .i64 a1, .int .i64 a2, .int .i64 a3, .slice sA sl sc] 34)) (fun _ => False)).alloc (.cells #[.int .i64 e0, .int .i64 e1, .int .i64 e2, .int .i64 e3, .int .i64 e4, .int .i64 e5, .int .i64 e6, .int .i64 e7, .int .i64 e8, .int .i64 e9] 26)
  have k2 := (Only.refl ((w.alloc (.cells #[.int .i64 e0, .int .i64 e1, .int .i64 e2, .int .i64 e3, .int .i64 e4, .int .i64 e5, .int .i64 e6, .int .i64 e7, .int .i64 e8, .int .i64 e9, .int .i64 a0, .int .i64 a1, .int .i64 a2, .int .i64 a3, .slice sA sl sc] 34)).alloc (.cells #[.int .i64 e0, .int .i64 e1, .int .i64 e2, .int .i64 e3, .int .i64 e4, .int .i64 e5, .int .i64 e6, .int .i64 e7, .int .i64 e8, .int .i64 e9] 26)) (fun _ => False)).alloc (.cells #[.int .i64 a0, .int .i64 a1, .int .i64 a2, .int .i64 a3] 31)
  have r0' := k2.blk (fun t => t) (k1.blk (fun t => t) r0)
  have r1' := k2.blk (fun t => t) r1
  rw [World.size_alloc] at r1'
  rw [World.size_alloc, World.size_alloc] at r2
  have bb := ((((Below.refl w.heap.size w).alloc (Nat.le_refl _) (.cells #[.int .i64 e0, .int .i64 e1, .int .i64 e2, .int .i64 e3, .int .i64 e4, .int .i64 e5, .int .i64 e6, .int .i64 e7, .int .i64 e8, .int .i64 e9, .int .i64 a0, .int .i64 a1, .int .i64 a2, .int .i64 a3, .slice sA sl sc] 34))).alloc (by rw [World.size_alloc]; omega) (.cells #[.int .i64 e0, .int .i64 e1, .int .i64 e2, .int .i64 e3, .int .i64 e4, .int .i64 e5, .int .i64 e6, .int .i64 e7, .int .i64 e8, .int .i64 e9] 26)).alloc (by rw [World.size_alloc, World.size_alloc]; omega) (.cells #[.int .i64 a0, .int .i64 a1, .int .i64 a2, .int .i64 a3] 31)
  have h1 := h.below bb
  have O1 := Lib.hid (Only.of_below (S := Ow q gs gm G) bb)
  have hnn : ∀ j, Ow q gs gm G j → j < w.heap.size := fun j t => h.lt t
  obtain ⟨Hs, hHs⟩ : ∃ z, w.heap.size = z := ⟨_, rfl⟩
  have HLE : Hid (w.heap.size ≤ Hs) := Lib.hid (by omega)
  rw [hHs] at r0' r1' r2 hnn
  try rw [hHs]
  have HNN := Lib.hid hnn
  clear hHs bb r0 r1 k1 k2 h hnn
  generalize ((w.alloc (.cells #[.int .i64 e0, .int .i64 e1, .int .i64 e2, .int .i64 e3, .int .i64 e4, .int .i64 e5, .int .i64 e6, .int .i64 e7, .int .i64 e8, .int .i64 e9, .int .i64 a0, .int .i64 a1, .int .i64 a2, .int .i64 a3, .slice sA sl sc] 34)).alloc (.cells #[.int .i64 e0, .int .i64 e1, .int .i64 e2, .int .i64 e3, .int .i64 e4, .int .i64 e5, .int .i64 e6, .int .i64 e7, .int .i64 e8, .int .i64 e9] 26)).alloc (.cells #[.int .i64 a0, .int .i64 a1, .int .i64 a2, .int .i64 a3] 31) = w1 at r0' r1' r2 h1 O1 ⊢
  have RS1 := Lib.hid r0'
  have RE1 := Lib.hid r1'
  have RA1 := Lib.hid r2
  clear r0' r1' r2
  refine (lright_any e0 e1 e2 e3 e4 e5 e6 e7 e8 e9 w1 true ⟨fun _ => HR.out, fun _ => rfl⟩).mono ?_
  rintro r1 w2 ⟨rfl, bx⟩
  have h2 := h1.below bx
  have O2 : Hid (Only w w2 (Ow q gs gm G)) := Lib.hid (O1.out.tr (Only.of_below bx))
  have RS2 : Hid (w2.heap[Hs]? = some (.cells #[.int .i64 e0, .int .i64 e1, .int .i64 e2, .int .i64 e3, .int .i64 e4, .int .i64 e5, .int .i64 e6, .int .i64 e7, .int .i64 e8, .int .i64 e9, .int .i64 a0, .int .i64 a1, .int .i64 a2, .int .i64 a3, .slice sA sl sc] 34 (0, 0))) := Lib.hid (by rw [bx.block _ (lt_of_row RS1.out)]; exact RS1.out)
  have RE2 : Hid (w2.heap[(Hs + 1)]? = some (.cells #[.int .i64 e0, .int .i64 e1, .int .i64 e2, .int .i64 e3, .int .i64 e4, .int .i64 e5, .int .i64 e6, .int .i64 e7, .int .i64 e8, .int .i64 e9] 26 (0, 0))) := Lib.hid (by rw [bx.block _ (lt_of_row RE1.out)]; exact RE1.out)
  have RA2 : Hid (w2.heap[(Hs + 1 + 1)]? = some (.cells #[.int .i64 a0, .int .i64 a1, .int .i64 a2, .int .i64 a3] 31 (0, 0))) := Lib.hid (by rw [bx.block _ (lt_of_row RA1.out)]; exact RA1.out)
  clear h1 O1 RS1 RE1 RA1 bx
  have zA0 := (cellB RA2.out 0 _ rfl : w2.cell? ⟨(Hs + 1 + 1), 0, none⟩ = some (.int .i64 a0))
  have zA1 := (cellB RA2.out 1 _ rfl : w2.cell? ⟨(Hs + 1 + 1), 1, none⟩ = some (.int .i64 a1))
  have zA2 := (cellB RA2.out 2 _ rfl : w2.cell? ⟨(Hs + 1 + 1), 2, none⟩ = some (.int .i64 a2))
  have zA3 := (cellB RA2.out 3 _ rfl : w2.cell? ⟨(Hs + 1 + 1), 3, none⟩ = some (.int .i64 a3))
  go_wp2_with fail
  clear zA0 zA1 zA2 zA3
  refine (RA.right_any a0 a1 a2 a3 w2 false ⟨fun t => (nomatch t), fun t => absurd t HA.out⟩).mono ?_
  rintro r2 w3 ⟨rfl, bx⟩
  have h3 := h2.below bx
  have O3 : Hid (Only w w3 (Ow q gs gm G)) := Lib.hid (O2.out.tr (Only.of_below bx))
  have RS3 : Hid (w3.heap[Hs]? = some (.cells #[.int .i64 e0, .int .i64 e1, .int .i64 e2, .int .i64 e3, .int .i64 e4, .int .i64 e5, .int .i64 e6, .int .i64 e7, .int .i64 e8, .int .i64 e9, .int .i64 a0, .int .i64 a1, .int .i64 a2, .int .i64 a3, .slice sA sl sc] 34 (0, 0))) := Lib.hid (by rw [bx.block _ (lt_of_row RS2.out)]; exact RS2.out)
  have RE3 : Hid (w3.heap[(Hs + 1)]? = some (.cells #[.int .i64 e0, .int .i64 e1, .int .i64 e2, .int .i64 e3, .int .i64 e4, .int .i64 e5, .int .i64 e6, .int .i64 e7, .int .i64 e8, .int .i64 e9] 26 (0, 0))) := Lib.hid (by rw [bx.block _ (lt_of_row RE2.out)]; exact RE2.out)
  have RA3 : Hid (w3.heap[(Hs + 1 + 1)]? = some (.cells #[.int .i64 a0, .int .i64 a1, .int .i64 a2, .int .i64 a3] 31 (0, 0))) := Lib.hid (by rw [bx.block _ (lt_of_row RA2.out)]; exact RA2.out)
  clear h2 O2 RS2 RE2 RA2 bx
  go_wp2
  go_ret
  exact ⟨O3.out, Or.inl ⟨stp_bad (Or.inr HA.out), rfl⟩⟩

set_option maxRecDepth 100000 in
set_option maxHeartbeats 3200000 in
theorem l_step3y {w : World} {q gs gm : Nat} {G : Option Nat} {W : Wd} {N : Nat} (h : Wl w q gs gm G W N) {e0 e1 e2 e3 e4 e5 e6 e7 e8 e9 a1 a2 a3 : Int} {sA : Option Addr} {sl sc : Nat} (hr : right ⟨e0, e1, e2, e3, e4, e5, e6, e7, e8, e9⟩) (ha : okA ⟨1, a1, a2, a3⟩) (hsl : sl = 0) : Calls Try.prog 10 #[ptr q, .agg #[.int .i64 e0, .int .i64 e1, .int .i64 e2, .int .i64 e3, .int .i64 e4, .int .i64 e5, .int .i64 e6, .int .i64 e7, .int .i64 e8, .int .i64 e9, .int .i64 1, .int .i64 a1, .int .i64 a2, .int .i64 a3, .slice sA sl sc]] w (Lr w q gs gm G N (some W)) := by
  have HR := Lib.hid hr
  have HA := Lib.hid ha
  subst hsl
  go_enter Try.func10, Try.ntmps10
  go_wp2_with fail
  have r0 := heap_alloc_new w (.cells #[.int .i64 e0, .int .i64 e1, .int .i64 e2, .int .i64 e3, .int .i64 e4, .int .i64 e5, .int .i64 e6, .int .i64 e7, .int .i64 e8, .int .i64 e9, .int .i64 1, .int .i64 a1, .int .i64 a2, .int .i64 a3, .slice sA 0 sc] 34)
  have r1 := heap_alloc_new (w.alloc (.cells #[.int .i64 e0, .int .i64 e1, .int .i64 e2, .int .i64 e3, .int .i64 e4, .int .i64 e5, .int .i64 e6, .int .i64 e7, .int .i64 e8, .int .i64 e9, .int .i64 1, .int .i64 a1, .int .i64 a2, .int .i64 a3, .slice sA 0 sc] 34)) (.cells #[.int .i64 e0, .int .i64 e1, .int .i64 e2, .int .i64 e3, .int .i64 e4, .int .i64 e5, .int .i64 e6, .int .i64 e7, .int .i64 e8, .int .i64 e9] 26)
  have r2 := heap_alloc_new ((w.alloc (.cells #[.int .i64 e0, .int .i64 e1, .int .i64 e2, .int .i64 e3, .int .i64 e4, .int .i64 e5, .int .i64 e6, .int .i64 e7, .int .i64 e8, .int .i64 e9, .int .i64 1, .int .i64 a1, .int .i64 a2, .int .i64 a3, .slice sA 0 sc] 34)).alloc (.cells #[.int .i64 e0, .int .i64 e1, .int .i64 e2, .int .i64 e3, .int .i64 e4, .int .i64 e5, .int .i64 e6, .int .i64 e7, .int .i64 e8, .int .i64 e9] 26)) (.cells #[.int .i64 1, .int .i64 a1, .int .i64 a2, .int .i64 a3] 31)
  have k1 := (Only.refl (w.alloc (.cells #[.int .i64 e0, .int .i64 e1, .int .i64 e2, .int .i64 e3, .int .i64 e4, .int .i64 e5, .int .i64 e6, .int .i64 e7, .int .i64 e8, .int .i64 e9, .int .i64 1, .int .i64 a1, .int .i64 a2, .int .i64 a3, .slice sA 0 sc] 34)) (fun _ => False)).alloc (.cells #[.int .i64 e0, .int .i64 e1, .int .i64 e2, .int .i64 e3, .int .i64 e4, .int .i64 e5, .int .i64 e6, .int .i64 e7, .int .i64 e8, .int .i64 e9] 26)
  have k2 := (Only.refl ((w.alloc (.cells #[.int .i64 e0, .int .i64 e1, .int .i64 e2, .int .i64 e3, .int .i64 e4, .int .i64 e5, .int .i64 e6, .int .i64 e7, .int .i64 e8, .int .i64 e9, .int .i64 1, .int .i64 a1, .int .i64 a2, .int .i64 a3, .slice sA 0 sc] 34)).alloc (.cells #[.int .i64 e0, .int .i64 e1, .int .i64 e2, .int .i64 e3, .int .i64 e4, .int .i64 e5, .int .i64 e6, .int .i64 e7, .int .i64 e8, .int .i64 e9] 26)) (fun _ => False)).alloc (.cells #[.int .i64 1, .int .i64 a1, .int .i64 a2, .int .i64 a3] 31)
  have r0' := k2.blk (fun t => t) (k1.blk (fun t => t) r0)
  have r1' := k2.blk (fun t => t) r1
  rw [World.size_alloc] at r1'
  rw [World.size_alloc, World.size_alloc] at r2
  have bb := ((((Below.refl w.heap.size w).alloc (Nat.le_refl _) (.cells #[.int .i64 e0, .int .i64 e1, .int .i64 e2, .int .i64 e3, .int .i64 e4, .int .i64 e5, .int .i64 e6, .int .i64 e7, .int .i64 e8, .int .i64 e9, .int .i64 1, .int .i64 a1, .int .i64 a2, .int .i64 a3, .slice sA 0 sc] 34))).alloc (by rw [World.size_alloc]; omega) (.cells #[.int .i64 e0, .int .i64 e1, .int .i64 e2, .int .i64 e3, .int .i64 e4, .int .i64 e5, .int .i64 e6, .int .i64 e7, .int .i64 e8, .int .i64 e9] 26)).alloc (by rw [World.size_alloc, World.size_alloc]; omega) (.cells #[.int .i64 1, .int .i64 a1, .int .i64 a2, .int .i64 a3] 31)
  have h1 := h.below bb
  have O1 := Lib.hid (Only.of_below (S := Ow q gs gm G) bb)
  have hnn : ∀ j, Ow q gs gm G j → j < w.heap.size := fun j t => h.lt t
  obtain ⟨Hs, hHs⟩ : ∃ z, w.heap.size = z := ⟨_, rfl⟩
  have HLE : Hid (w.heap.size ≤ Hs) := Lib.hid (by omega)
  rw [hHs] at r0' r1' r2 hnn
  try rw [hHs]
  have HNN := Lib.hid hnn
  clear hHs bb r0 r1 k1 k2 h hnn
  generalize ((w.alloc (.cells #[.int .i64 e0, .int .i64 e1, .int .i64 e2, .int .i64 e3, .int .i64 e4, .int .i64 e5, .int .i64 e6, .int .i64 e7, .int .i64 e8, .int .i64 e9, .int .i64 1, .int .i64 a1, .int .i64 a2, .int .i64 a3, .slice sA 0 sc] 34)).alloc (.cells #[.int .i64 e0, .int .i64 e1, .int .i64 e2, .int .i64 e3, .int .i64 e4, .int .i64 e5, .int .i64 e6, .int .i64 e7, .int .i64 e8, .int .i64 e9] 26)).alloc (.cells #[.int .i64 1, .int .i64 a1, .int .i64 a2, .int .i64 a3] 31) = w1 at r0' r1' r2 h1 O1 ⊢
  have RS1 := Lib.hid r0'
  have RE1 := Lib.hid r1'
  have RA1 := Lib.hid r2
  clear r0' r1' r2
  refine (lright_any e0 e1 e2 e3 e4 e5 e6 e7 e8 e9 w1 true ⟨fun _ => HR.out, fun _ => rfl⟩).mono ?_
  rintro r1 w2 ⟨rfl, bx⟩
  have h2 := h1.below bx
  have O2 : Hid (Only w w2 (Ow q gs gm G)) := Lib.hid (O1.out.tr (Only.of_below bx))
  have RS2 : Hid (w2.heap[Hs]? = some (.cells #[.int .i64 e0, .int .i64 e1, .int .i64 e2, .int .i64 e3, .int .i64 e4, .int .i64 e5, .int .i64 e6, .int .i64 e7, .int .i64 e8, .int .i64 e9, .int .i64 1, .int .i64 a1, .int .i64 a2, .int .i64 a3, .slice sA 0 sc] 34 (0, 0))) := Lib.hid (by rw [bx.block _ (lt_of_row RS1.out)]; exact RS1.out)
  have RE2 : Hid (w2.heap[(Hs + 1)]? = some (.cells #[.int .i64 e0, .int .i64 e1, .int .i64 e2, .int .i64 e3, .int .i64 e4, .int .i64 e5, .int .i64 e6, .int .i64 e7, .int .i64 e8, .int .i64 e9] 26 (0, 0))) := Lib.hid (by rw [bx.block _ (lt_of_row RE1.out)]; exact RE1.out)
  have RA2 : Hid (w2.heap[(Hs + 1 + 1)]? = some (.cells #[.int .i64 1, .int .i64 a1, .int .i64 a2, .int .i64 a3] 31 (0, 0))) := Lib.hid (by rw [bx.block _ (lt_of_row RA1.out)]; exact RA1.out)
  clear h1 O1 RS1 RE1 RA1 bx
  have zA0 := (cellB RA2.out 0 _ rfl : w2.cell? ⟨(Hs + 1 + 1), 0, none⟩ = some (.int .i64 1))
  have zA1 := (cellB RA2.out 1 _ rfl : w2.cell? ⟨(Hs + 1 + 1), 1, none⟩ = some (.int .i64 a1))
  have zA2 := (cellB RA2.out 2 _ rfl : w2.cell? ⟨(Hs + 1 + 1), 2, none⟩ = some (.int .i64 a2))
  have zA3 := (cellB RA2.out 3 _ rfl : w2.cell? ⟨(Hs + 1 + 1), 3, none⟩ = some (.int .i64 a3))
  go_wp2_with fail
  clear zA0 zA1 zA2 zA3
  refine (RA.right_any 1 a1 a2 a3 w2 true ⟨fun _ => HA.out, fun _ => rfl⟩).mono ?_
  rintro r2 w3 ⟨rfl, bx⟩
  have h3 := h2.below bx
  have O3 : Hid (Only w w3 (Ow q gs gm G)) := Lib.hid (O2.out.tr (Only.of_below bx))
  have RS3 : Hid (w3.heap[Hs]? = some (.cells #[.int .i64 e0, .int .i64 e1, .int .i64 e2, .int .i64 e3, .int .i64 e4, .int .i64 e5, .int .i64 e6, .int .i64 e7, .int .i64 e8, .int .i64 e9, .int .i64 1, .int .i64 a1, .int .i64 a2, .int .i64 a3, .slice sA 0 sc] 34 (0, 0))) := Lib.hid (by rw [bx.block _ (lt_of_row RS2.out)]; exact RS2.out)
  have RE3 : Hid (w3.heap[(Hs + 1)]? = some (.cells #[.int .i64 e0, .int .i64 e1, .int .i64 e2, .int .i64 e3, .int .i64 e4, .int .i64 e5, .int .i64 e6, .int .i64 e7, .int .i64 e8, .int .i64 e9] 26 (0, 0))) := Lib.hid (by rw [bx.block _ (lt_of_row RE2.out)]; exact RE2.out)
  have RA3 : Hid (w3.heap[(Hs + 1 + 1)]? = some (.cells #[.int .i64 1, .int .i64 a1, .int .i64 a2, .int .i64 a3] 31 (0, 0))) := Lib.hid (by rw [bx.block _ (lt_of_row RA2.out)]; exact RA2.out)
  clear h2 O2 RS2 RE2 RA2 bx
  have zA0 := (cellB RA3.out 0 _ rfl : w3.cell? ⟨(Hs + 1 + 1), 0, none⟩ = some (.int .i64 1))
  have zS14 := (cellB RS3.out 14 _ rfl : w3.cell? ⟨Hs, 14, none⟩ = some (.slice sA 0 sc))
  go_wp2
  go_ret
  exact ⟨O3.out, Or.inr ⟨W, G, rfl, rfl, h3, fun g hg => Or.inl hg⟩⟩

set_option maxRecDepth 100000 in
set_option maxHeartbeats 3200000 in
theorem l_step3n {w : World} {q gs gm : Nat} {G : Option Nat} {W : Wd} {N : Nat} (h : Wl w q gs gm G W N) {e0 e1 e2 e3 e4 e5 e6 e7 e8 e9 a1 a2 a3 : Int} {sA : Option Addr} {sl sc : Nat} (hr : right ⟨e0, e1, e2, e3, e4, e5, e6, e7, e8, e9⟩) (ha : okA ⟨1, a1, a2, a3⟩) (hsl : sl ≠ 0) : Calls Try.prog 10 #[ptr q, .agg #[.int .i64 e0, .int .i64 e1, .int .i64 e2, .int .i64 e3, .int .i64 e4, .int .i64 e5, .int .i64 e6, .int .i64 e7, .int .i64 e8, .int .i64 e9, .int .i64 1, .int .i64 a1, .int .i64 a2, .int .i64 a3, .slice sA sl sc]] w (Lr w q gs gm G N none) := by
  have HR := Lib.hid hr
  have HA := Lib.hid ha
  have hz : ((sl : Int) == 0) = false := beq_false_of_ne (by omega)
  go_enter Try.func10, Try.ntmps10
  go_wp2_with fail
  have r0 := heap_alloc_new w (.cells #[.int .i64 e0, .int .i64 e1, .int .i64 e2, .int .i64 e3, .int .i64 e4, .int .i64 e5, .int .i64 e6, .int .i64 e7, .int .i64 e8, .int .i64 e9, .int .i64 1, .int .i64 a1, .int .i64 a2, .int .i64 a3, .slice sA sl sc] 34)
  have r1 := heap_alloc_new (w.alloc (.cells #[.int .i64 e0, .int .i64 e1, .int .i64 e2, .int .i64 e3, .int .i64 e4, .int .i64 e5, .int .i64 e6, .int .i64 e7, .int .i64 e8, .int .i64 e9, .int .i64 1, .int .i64 a1, .int .i64 a2, .int .i64 a3, .slice sA sl sc] 34)) (.cells #[.int .i64 e0, .int .i64 e1, .int .i64 e2, .int .i64 e3, .int .i64 e4, .int .i64 e5, .int .i64 e6, .int .i64 e7, .int .i64 e8, .int .i64 e9] 26)
  have r2 := heap_alloc_new ((w.alloc (.cells #[.int .i64 e0, .int .i64 e1, .int .i64 e2, .int .i64 e3, .int .i64 e4, .int .i64 e5, .int .i64 e6, .int .i64 e7, .int .i64 e8, .int .i64 e9, .int .i64 1, .int .i64 a1, .int .i64 a2, .int .i64 a3, .slice sA sl sc] 34)).alloc (.cells #[.int .i64 e0, .int .i64 e1, .int .i64 e2, .int .i64 e3, .int .i64 e4, .int .i64 e5, .int .i64 e6, .int .i64 e7, .int .i64 e8, .int .i64 e9] 26)) (.cells #[.int .i64 1, .int .i64 a1, .int .i64 a2, .int .i64 a3] 31)
  have k1 := (Only.refl (w.alloc (.cells #[.int .i64 e0, .int .i64 e1, .int .i64 e2, .int .i64 e3, .int .i64 e4, .int .i64 e5, .int .i64 e6, .int .i64 e7, .int .i64 e8, .int .i64 e9, .int .i64 1, .int .i64 a1, .int .i64 a2, .int .i64 a3, .slice sA sl sc] 34)) (fun _ => False)).alloc (.cells #[.int .i64 e0, .int .i64 e1, .int .i64 e2, .int .i64 e3, .int .i64 e4, .int .i64 e5, .int .i64 e6, .int .i64 e7, .int .i64 e8, .int .i64 e9] 26)
  have k2 := (Only.refl ((w.alloc (.cells #[.int .i64 e0, .int .i64 e1, .int .i64 e2, .int .i64 e3, .int .i64 e4, .int .i64 e5, .int .i64 e6, .int .i64 e7, .int .i64 e8, .int .i64 e9, .int .i64 1, .int .i64 a1, .int .i64 a2, .int .i64 a3, .slice sA sl sc] 34)).alloc (.cells #[.int .i64 e0, .int .i64 e1, .int .i64 e2, .int .i64 e3, .int .i64 e4, .int .i64 e5, .int .i64 e6, .int .i64 e7, .int .i64 e8, .int .i64 e9] 26)) (fun _ => False)).alloc (.cells #[.int .i64 1, .int .i64 a1, .int .i64 a2, .int .i64 a3] 31)
  have r0' := k2.blk (fun t => t) (k1.blk (fun t => t) r0)
  have r1' := k2.blk (fun t => t) r1
  rw [World.size_alloc] at r1'
  rw [World.size_alloc, World.size_alloc] at r2
  have bb := ((((Below.refl w.heap.size w).alloc (Nat.le_refl _) (.cells #[.int .i64 e0, .int .i64 e1, .int .i64 e2, .int .i64 e3, .int .i64 e4, .int .i64 e5, .int .i64 e6, .int .i64 e7, .int .i64 e8, .int .i64 e9, .int .i64 1, .int .i64 a1, .int .i64 a2, .int .i64 a3, .slice sA sl sc] 34))).alloc (by rw [World.size_alloc]; omega) (.cells #[.int .i64 e0, .int .i64 e1, .int .i64 e2, .int .i64 e3, .int .i64 e4, .int .i64 e5, .int .i64 e6, .int .i64 e7, .int .i64 e8, .int .i64 e9] 26)).alloc (by rw [World.size_alloc, World.size_alloc]; omega) (.cells #[.int .i64 1, .int .i64 a1, .int .i64 a2, .int .i64 a3] 31)
  have h1 := h.below bb
  have O1 := Lib.hid (Only.of_below (S := Ow q gs gm G) bb)
  have hnn : ∀ j, Ow q gs gm G j → j < w.heap.size := fun j t => h.lt t
  obtain ⟨Hs, hHs⟩ : ∃ z, w.heap.size = z := ⟨_, rfl⟩
  have HLE : Hid (w.heap.size ≤ Hs) := Lib.hid (by omega)
  rw [hHs] at r0' r1' r2 hnn
  try rw [hHs]
  have HNN := Lib.hid hnn
  clear hHs bb r0 r1 k1 k2 h hnn
  generalize ((w.alloc (.cells #[.int .i64 e0, .int .i64 e1, .int .i64 e2, .int .i64 e3, .int .i64 e4, .int .i64 e5, .int .i64 e6, .int .i64 e7, .int .i64 e8, .int .i64 e9, .int .i64 1, .int .i64 a1, .int .i64 a2, .int .i64 a3, .slice sA sl sc] 34)).alloc (.cells #[.int .i64 e0, .int .i64 e1, .int .i64 e2, .int .i64 e3, .int .i64 e4, .int .i64 e5, .int .i64 e6, .int .i64 e7, .int .i64 e8, .int .i64 e9] 26)).alloc (.cells #[.int .i64 1, .int .i64 a1, .int .i64 a2, .int .i64 a3] 31) = w1 at r0' r1' r2 h1 O1 ⊢
  have RS1 := Lib.hid r0'
  have RE1 := Lib.hid r1'
  have RA1 := Lib.hid r2
  clear r0' r1' r2
  refine (lright_any e0 e1 e2 e3 e4 e5 e6 e7 e8 e9 w1 true ⟨fun _ => HR.out, fun _ => rfl⟩).mono ?_
  rintro r1 w2 ⟨rfl, bx⟩
  have h2 := h1.below bx
  have O2 : Hid (Only w w2 (Ow q gs gm G)) := Lib.hid (O1.out.tr (Only.of_below bx))
  have RS2 : Hid (w2.heap[Hs]? = some (.cells #[.int .i64 e0, .int .i64 e1, .int .i64 e2, .int .i64 e3, .int .i64 e4, .int .i64 e5, .int .i64 e6, .int .i64 e7, .int .i64 e8, .int .i64 e9, .int .i64 1, .int .i64 a1, .int .i64 a2, .int .i64 a3, .slice sA sl sc] 34 (0, 0))) := Lib.hid (by rw [bx.block _ (lt_of_row RS1.out)]; exact RS1.out)
  have RE2 : Hid (w2.heap[(Hs + 1)]? = some (.cells #[.int .i64 e0, .int .i64 e1, .int .i64 e2, .int .i64 e3, .int .i64 e4, .int .i64 e5, .int .i64 e6, .int .i64 e7, .int .i64 e8, .int .i64 e9] 26 (0, 0))) := Lib.hid (by rw [bx.block _ (lt_of_row RE1.out)]; exact RE1.out)
  have RA2 : Hid (w2.heap[(Hs + 1 + 1)]? = some (.cells #[.int .i64 1, .int .i64 a1, .int .i64 a2, .int .i64 a3] 31 (0, 0))) := Lib.hid (by rw [bx.block _ (lt_of_row RA1.out)]; exact RA1.out)
  clear h1 O1 RS1 RE1 RA1 bx
  have zA0 := (cellB RA2.out 0 _ rfl : w2.cell? ⟨(Hs + 1 + 1), 0, none⟩ = some (.int .i64 1))
  have zA1 := (cellB RA2.out 1 _ rfl : w2.cell? ⟨(Hs + 1 + 1), 1, none⟩ = some (.int .i64 a1))
  have zA2 := (cellB RA2.out 2 _ rfl : w2.cell? ⟨(Hs + 1 + 1), 2, none⟩ = some (.int .i64 a2))
  have zA3 := (cellB RA2.out 3 _ rfl : w2.cell? ⟨(Hs + 1 + 1), 3, none⟩ = some (.int .i64 a3))
  go_wp2_with fail
  clear zA0 zA1 zA2 zA3
  refine (RA.right_any 1 a1 a2 a3 w2 true ⟨fun _ => HA.out, fun _ => rfl⟩).mono ?_
  rintro r2 w3 ⟨rfl, bx⟩
  have h3 := h2.below bx
  have O3 : Hid (Only w w3 (Ow q gs gm G)) := Lib.hid (O2.out.tr (Only.of_below bx))
  have RS3 : Hid (w3.heap[Hs]? = some (.cells #[.int .i64 e0, .int .i64 e1, .int .i64 e2, .int .i64 e3, .int .i64 e4, .int .i64 e5, .int .i64 e6, .int .i64 e7, .int .i64 e8, .int .i64 e9, .int .i64 1, .int .i64 a1, .int .i64 a2, .int .i64 a3, .slice sA sl sc] 34 (0, 0))) := Lib.hid (by rw [bx.block _ (lt_of_row RS2.out)]; exact RS2.out)
  have RE3 : Hid (w3.heap[(Hs + 1)]? = some (.cells #[.int .i64 e0, .int .i64 e1, .int .i64 e2, .int .i64 e3, .int .i64 e4, .int .i64 e5, .int .i64 e6, .int .i64 e7, .int .i64 e8, .int .i64 e9] 26 (0, 0))) := Lib.hid (by rw [bx.block _ (lt_of_row RE2.out)]; exact RE2.out)
  have RA3 : Hid (w3.heap[(Hs + 1 + 1)]? = some (.cells #[.int .i64 1, .int .i64 a1, .int .i64 a2, .int .i64 a3] 31 (0, 0))) := Lib.hid (by rw [bx.block _ (lt_of_row RA2.out)]; exact RA2.out)
  clear h2 O2 RS2 RE2 RA2 bx
  have zA0 := (cellB RA3.out 0 _ rfl : w3.cell? ⟨(Hs + 1 + 1), 0, none⟩ = some (.int .i64 1))
  have zS14 := (cellB RS3.out 14 _ rfl : w3.cell? ⟨Hs, 14, none⟩ = some (.slice sA sl sc))
  go_wp2
  go_ret
  exact ⟨O3.out, Or.inl ⟨rfl, rfl⟩⟩

set_option maxRecDepth 100000 in
set_option maxHeartbeats 3200000 in
theorem l_step4 {w : World} {q gs gm : Nat} {G : Option Nat} {W : Wd} {N : Nat} (h : Wl w q gs gm G W N) {e0 e1 e2 e3 e4 e5 e6 e7 e8 e9 a0 a1 a2 a3 : Int} {sA : Option Addr} {sl sc : Nat} {cs : List Cmd} (hr : right ⟨e0, e1, e2, e3, e4, e5, e6, e7, e8, e9⟩) (ha : okA ⟨a0, a1, a2, a3⟩) (hn1 : a0 ≠ 1) (hn0 : a0 ≠ 0) (h6 : e0 ≠ 6) : Calls Try.prog 10 #[ptr q, .agg #[.int .i64 e0, .int .i64 e1, .int .i64 e2, .int .i64 e3, .int .i64 e4, .int .i64 e5, .int .i64 e6, .int .i64 e7, .int .i64 e8, .int .i64 e9, .int .i64 a0, .int .i64 a1, .int .i64 a2, .int .i64 a3, .slice sA sl sc]] w (Lr w q gs gm G N (stp W (⟨e0, e1, e2, e3, e4, e5, e6, e7, e8, e9⟩, ⟨a0, a1, a2, a3⟩, cs))) := by
  have HR := Lib.hid hr
  have HA := Lib.hid ha
  go_enter Try.func10, Try.ntmps10
  go_wp2_with fail
  have r0 := heap_alloc_new w (.cells #[.int .i64 e0, .int .i64 e1, .int .i64 e2, .int .i64 e3, .int .i64 e4, .int .i64 e5, .int .i64 e6, .int .i64 e7, .int .i64 e8, .int .i64 e9, .int .i64 a0, .int .i64 a1, .int .i64 a2, .int .i64 a3, .slice sA sl sc] 34)
  have r1 := heap_alloc_new (w.alloc (.cells #[.int .i64 e0, .int .i64 e1, .int .i64 e2, .int .i64 e3, .int .i64 e4, .int .i64 e5, .int .i64 e6, .int .i64 e7, .int .i64 e8, .int .i64 e9, .int .i64 a0, .int .i64 a1, .int .i64 a2, .int .i64 a3, .slice sA sl sc] 34)) (.cells #[.int .i64 e0, .int .i64 e1, .int .i64 e2, .int .i64 e3, .int .i64 e4, .int .i64 e5, .int .i64 e6, .int .i64 e7, .int .i64 e8, .int .i64 e9] 26)
  have r2 := heap_alloc_new ((w.alloc (.cells #[.int .i64 e0, .int .i64 e1, .int .i64 e2, .int .i64 e3, .int .i64 e4, .int .i64 e5, .int .i64 e6, .int .i64 e7, .int .i64 e8, .int .i64 e9, .int .i64 a0, .int .i64 a1, .int .i64 a2, .int .i64 a3, .slice sA sl sc] 34)).alloc (.cells #[.int .i64 e0, .int .i64 e1, .int .i64 e2, .int .i64 e3, .int .i64 e4, .int .i64 e5, .int .i64 e6, .int .i64 e7, .int .i64 e8, .int .i64 e9] 26)) (.cells #[.int .i64 a0, .int .i64 a1, .int .i64 a2, .int .i64 a3] 31)
  have k1 := (Only.refl (w.alloc (.cells #[.int .i64 e0, .int .i64 e1, .int .i64 e2, .int .i64 e3, .int .i64 e4, .int .i64 e5, .int .i64 e6, .int .i64 e7, .int .i64 e8, .int .i64 e9, .int .i64 a0, .int .i64 a1, .int .i64 a2, .int .i64 a3, .slice sA sl sc] 34)) (fun _ => False)).alloc (.cells #[.int .i64 e0, .int .i64 e1, .int .i64 e2, .int .i64 e3, .int .i64 e4, .int .i64 e5, .int .i64 e6, .int .i64 e7, .int .i64 e8, .int .i64 e9] 26)
  have k2 := (Only.refl ((w.alloc (.cells #[.int .i64 e0, .int .i64 e1, .int .i64 e2, .int .i64 e3, .int .i64 e4, .int .i64 e5, .int .i64 e6, .int .i64 e7, .int .i64 e8, .int .i64 e9, .int .i64 a0, .int .i64 a1, .int .i64 a2, .int .i64 a3, .slice sA sl sc] 34)).alloc (.cells #[.int .i64 e0, .int .i64 e1, .int .i64 e2, .int .i64 e3, .int .i64 e4, .int .i64 e5, .int .i64 e6, .int .i64 e7, .int .i64 e8, .int .i64 e9] 26)) (fun _ => False)).alloc (.cells #[.int .i64 a0, .int .i64 a1, .int .i64 a2, .int .i64 a3] 31)
  have r0' := k2.blk (fun t => t) (k1.blk (fun t => t) r0)
  have r1' := k2.blk (fun t => t) r1
  rw [World.size_alloc] at r1'
  rw [World.size_alloc, World.size_alloc] at r2
  have bb := ((((Below.refl w.heap.size w).alloc (Nat.le_refl _) (.cells #[.int .i64 e0, .int .i64 e1, .int .i64 e2, .int .i64 e3, .int .i64 e4, .int .i64 e5, .int .i64 e6, .int .i64 e7, .int .i64 e8, .int .i64 e9, .int .i64 a0, .int .i64 a1, .int .i64 a2, .int .i64 a3, .slice sA sl sc] 34))).alloc (by rw [World.size_alloc]; omega) (.cells #[.int .i64 e0, .int .i64 e1, .int .i64 e2, .int .i64 e3, .int .i64 e4, .int .i64 e5, .int .i64 e6, .int .i64 e7, .int .i64 e8, .int .i64 e9] 26)).alloc (by rw [World.size_alloc, World.size_alloc]; omega) (.cells #[.int .i64 a0, .int .i64 a1, .int .i64 a2, .int .i64 a3] 31)
  have h1 := h.below bb
  have O1 := Lib.hid (Only.of_below (S := Ow q gs gm G) bb)
  have hnn : ∀ j, Ow q gs gm G j → j < w.heap.size := fun j t => h.lt t
  obtain ⟨Hs, hHs⟩ : ∃ z, w.heap.size = z := ⟨_, rfl⟩
  have HLE : Hid (w.heap.size ≤ Hs) := Lib.hid (by omega)
  rw [hHs] at r0' r1' r2 hnn
  try rw [hHs]
  have HNN := Lib.hid hnn
  clear hHs bb r0 r1 k1 k2 h hnn
  generalize ((w.alloc (.cells #[.int .i64 e0, .int .i64 e1, .int .i64 e2, .int .i64 e3, .int .i64 e4, .int .i64 e5, .int .i64 e6, .int .i64 e7, .int .i64 e8, .int .i64 e9, .int .i64 a0, .int .i64 a1, .int .i64 a2, .int .i64 a3, .slice sA sl sc] 34)).alloc (.cells #[.int .i64 e0, .int .i64 e1, .int .i64 e2, .int .i64 e3, .int .i64 e4, .int .i64 e5, .int .i64 e6, .int .i64 e7, .int .i64 e8, .int .i64 e9] 26)).alloc (.cells #[.int .i64 a0, .int .i64 a1, .int .i64 a2, .int .i64 a3] 31) = w1 at r0' r1' r2 h1 O1 ⊢
  have RS1 := Lib.hid r0'
  have RE1 := Lib.hid r1'
  have RA1 := Lib.hid r2
  clear r0' r1' r2
  refine (lright_any e0 e1 e2 e3 e4 e5 e6 e7 e8 e9 w1 true ⟨fun _ => HR.out, fun _ => rfl⟩).mono ?_
  rintro r1 w2 ⟨rfl, bx⟩
  have h2 := h1.below bx
  have O2 : Hid (Only w w2 (Ow q gs gm G)) := Lib.hid (O1.out.tr (Only.of_below bx))
  have RS2 : Hid (w2.heap[Hs]? = some (.cells #[.int .i64 e0, .int .i64 e1, .int .i64 e2, .int .i64 e3, .int .i64 e4, .int .i64 e5, .int .i64 e6, .int .i64 e7, .int .i64 e8, .int .i64 e9, .int .i64 a0, .int .i64 a1, .int .i64 a2, .int .i64 a3, .slice sA sl sc] 34 (0, 0))) := Lib.hid (by rw [bx.block _ (lt_of_row RS1.out)]; exact RS1.out)
  have RE2 : Hid (w2.heap[(Hs + 1)]? = some (.cells #[.int .i64 e0, .int .i64 e1, .int .i64 e2, .int .i64 e3, .int .i64 e4, .int .i64 e5, .int .i64 e6, .int .i64 e7, .int .i64 e8, .int .i64 e9] 26 (0, 0))) := Lib.hid (by rw [bx.block _ (lt_of_row RE1.out)]; exact RE1.out)
  have RA2 : Hid (w2.heap[(Hs + 1 + 1)]? = some (.cells #[.int .i64 a0, .int .i64 a1, .int .i64 a2, .int .i64 a3] 31 (0, 0))) := Lib.hid (by rw [bx.block _ (lt_of_row RA1.out)]; exact RA1.out)
  clear h1 O1 RS1 RE1 RA1 bx
  have zA0 := (cellB RA2.out 0 _ rfl : w2.cell? ⟨(Hs + 1 + 1), 0, none⟩ = some (.int .i64 a0))
  have zA1 := (cellB RA2.out 1 _ rfl : w2.cell? ⟨(Hs + 1 + 1), 1, none⟩ = some (.int .i64 a1))
  have zA2 := (cellB RA2.out 2 _ rfl : w2.cell? ⟨(Hs + 1 + 1), 2, none⟩ = some (.int .i64 a2))
  have zA3 := (cellB RA2.out 3 _ rfl : w2.cell? ⟨(Hs + 1 + 1), 3, none⟩ = some (.int .i64 a3))
  go_wp2_with fail
  clear zA0 zA1 zA2 zA3
  refine (RA.right_any a0 a1 a2 a3 w2 true ⟨fun _ => HA.out, fun _ => rfl⟩).mono ?_
  rintro r2 w3 ⟨rfl, bx⟩
  have h3 := h2.below bx
  have O3 : Hid (Only w w3 (Ow q gs gm G)) := Lib.hid (O2.out.tr (Only.of_below bx))
  have RS3 : Hid (w3.heap[Hs]? = some (.cells #[.int .i64 e0, .int .i64 e1, .int .i64 e2, .int .i64 e3, .int .i64 e4, .int .i64 e5, .int .i64 e6, .int .i64 e7, .int .i64 e8, .int .i64 e9, .int .i64 a0, .int .i64 a1, .int .i64 a2, .int .i64 a3, .slice sA sl sc] 34 (0, 0))) := Lib.hid (by rw [bx.block _ (lt_of_row RS2.out)]; exact RS2.out)
  have RE3 : Hid (w3.heap[(Hs + 1)]? = some (.cells #[.int .i64 e0, .int .i64 e1, .int .i64 e2, .int .i64 e3, .int .i64 e4, .int .i64 e5, .int .i64 e6, .int .i64 e7, .int .i64 e8, .int .i64 e9] 26 (0, 0))) := Lib.hid (by rw [bx.block _ (lt_of_row RE2.out)]; exact RE2.out)
  have RA3 : Hid (w3.heap[(Hs + 1 + 1)]? = some (.cells #[.int .i64 a0, .int .i64 a1, .int .i64 a2, .int .i64 a3] 31 (0, 0))) := Lib.hid (by rw [bx.block _ (lt_of_row RA2.out)]; exact RA2.out)
  clear h2 O2 RS2 RE2 RA2 bx
  have d1 : (a0 == 1) = false := beq_false_of_ne hn1
  have d0 : (a0 == 0) = false := beq_false_of_ne hn0
  have d6 : (e0 == 6) = false := beq_false_of_ne h6
  have zA0 := (cellB RA3.out 0 _ rfl : w3.cell? ⟨(Hs + 1 + 1), 0, none⟩ = some (.int .i64 a0))
  have zE0 := (cellB RE3.out 0 _ rfl : w3.cell? ⟨(Hs + 1), 0, none⟩ = some (.int .i64 e0))
  go_wp2
  go_ret
  exact ⟨O3.out, Or.inl ⟨stp_mix HR.out HA.out hn1 (Or.inl ⟨h6, hn0⟩), rfl⟩⟩

set_option maxRecDepth 100000 in
set_option maxHeartbeats 3200000 in
theorem l_step5 {w : World} {q gs gm : Nat} {G : Option Nat} {W : Wd} {N : Nat} (h : Wl w q gs gm G W N) {e1 e2 e3 e4 e5 e6 e7 e8 e9 a1 a2 a3 : Int} {sA : Option Addr} {sl sc : Nat} {cs : List Cmd} (hr : right ⟨6, e1, e2, e3, e4, e5, e6, e7, e8, e9⟩) (ha : okA ⟨0, a1, a2, a3⟩) : Calls Try.prog 10 #[ptr q, .agg #[.int .i64 6, .int .i64 e1, .int .i64 e2, .int .i64 e3, .int .i64 e4, .int .i64 e5, .int .i64 e6, .int .i64 e7, .int .i64 e8, .int .i64 e9, .int .i64 0, .int .i64 a1, .int .i64 a2, .int .i64 a3, .slice sA sl sc]] w (Lr w q gs gm G N (stp W (⟨6, e1, e2, e3, e4, e5, e6, e7, e8, e9⟩, ⟨0, a1, a2, a3⟩, cs))) := by
  have HR := Lib.hid hr
  have HA := Lib.hid ha
  go_enter Try.func10, Try.ntmps10
  go_wp2_with fail
  have r0 := heap_alloc_new w (.cells #[.int .i64 6, .int .i64 e1, .int .i64 e2, .int .i64 e3, .int .i64 e4, .int .i64 e5, .int .i64 e6, .int .i64 e7, .int .i64 e8, .int .i64 e9, .int .i64 0, .int .i64 a1, .int .i64 a2, .int .i64 a3, .slice sA sl sc] 34)
  have r1 := heap_alloc_new (w.alloc (.cells #[.int .i64 6, .int .i64 e1, .int .i64 e2, .int .i64 e3, .int .i64 e4, .int .i64 e5, .int .i64 e6, .int .i64 e7, .int .i64 e8, .int .i64 e9, .int .i64 0, .int .i64 a1, .int .i64 a2, .int .i64 a3, .slice sA sl sc] 34)) (.cells #[.int .i64 6, .int .i64 e1, .int .i64 e2, .int .i64 e3, .int .i64 e4, .int .i64 e5, .int .i64 e6, .int .i64 e7, .int .i64 e8, .int .i64 e9] 26)
  have r2 := heap_alloc_new ((w.alloc (.cells #[.int .i64 6, .int .i64 e1, .int .i64 e2, .int .i64 e3, .int .i64 e4, .int .i64 e5, .int .i64 e6, .int .i64 e7, .int .i64 e8, .int .i64 e9, .int .i64 0, .int .i64 a1, .int .i64 a2, .int .i64 a3, .slice sA sl sc] 34)).alloc (.cells #[.int .i64 6, .int .i64 e1, .int .i64 e2, .int .i64 e3, .int .i64 e4, .int .i64 e5, .int .i64 e6, .int .i64 e7, .int .i64 e8, .int .i64 e9] 26)) (.cells #[.int .i64 0, .int .i64 a1, .int .i64 a2, .int .i64 a3] 31)
  have k1 := (Only.refl (w.alloc (.cells #[.int .i64 6, .int .i64 e1, .int .i64 e2, .int .i64 e3, .int .i64 e4, .int .i64 e5, .int .i64 e6, .int .i64 e7, .int .i64 e8, .int .i64 e9, .int .i64 0, .int .i64 a1, .int .i64 a2, .int .i64 a3, .slice sA sl sc] 34)) (fun _ => False)).alloc (.cells #[.int .i64 6, .int .i64 e1, .int .i64 e2, .int .i64 e3, .int .i64 e4, .int .i64 e5, .int .i64 e6, .int .i64 e7, .int .i64 e8, .int .i64 e9] 26)
  have k2 := (Only.refl ((w.alloc (.cells #[.int .i64 6, .int .i64 e1, .int .i64 e2, .int .i64 e3, .int .i64 e4, .int .i64 e5, .int .i64 e6, .int .i64 e7, .int .i64 e8, .int .i64 e9, .int .i64 0, .int .i64 a1, .int .i64 a2, .int .i64 a3, .slice sA sl sc] 34)).alloc (.cells #[.int .i64 6, .int .i64 e1, .int .i64 e2, .int .i64 e3, .int .i64 e4, .int .i64 e5, .int .i64 e6, .int .i64 e7, .int .i64 e8, .int .i64 e9] 26)) (fun _ => False)).alloc (.cells #[.int .i64 0, .int .i64 a1, .int .i64 a2, .int .i64 a3] 31)
  have r0' := k2.blk (fun t => t) (k1.blk (fun t => t) r0)
  have r1' := k2.blk (fun t => t) r1
  rw [World.size_alloc] at r1'
  rw [World.size_alloc, World.size_alloc] at r2
  have bb := ((((Below.refl w.heap.size w).alloc (Nat.le_refl _) (.cells #[.int .i64 6, .int .i64 e1, .int .i64 e2, .int .i64 e3, .int .i64 e4, .int .i64 e5, .int .i64 e6, .int .i64 e7, .int .i64 e8, .int .i64 e9, .int .i64 0, .int .i64 a1, .int .i64 a2, .int .i64 a3, .slice sA sl sc] 34))).alloc (by rw [World.size_alloc]; omega) (.cells #[.int .i64 6, .int .i64 e1, .int .i64 e2, .int .i64 e3, .int .i64 e4, .int .i64 e5, .int .i64 e6, .int .i64 e7, .int .i64 e8, .int .i64 e9] 26)).alloc (by rw [World.size_alloc, World.size_alloc]; omega) (.cells #[.int .i64 0, .int .i64 a1, .int .i64 a2, .int .i64 a3] 31)
  have h1 := h.below bb
  have O1 := Lib.hid (Only.of_below (S := Ow q gs gm G) bb)
  have hnn : ∀ j, Ow q gs gm G j → j < w.heap.size := fun j t => h.lt t
  obtain ⟨Hs, hHs⟩ : ∃ z, w.heap.size = z := ⟨_, rfl⟩
  have HLE : Hid (w.heap.size ≤ Hs) := Lib.hid (by omega)
  rw [hHs] at r0' r1' r2 hnn
  try rw [hHs]
  have HNN := Lib.hid hnn
  clear hHs bb r0 r1 k1 k2 h hnn
  generalize ((w.alloc (.cells #[.int .i64 6, .int .i64 e1, .int .i64 e2, .int .i64 e3, .int .i64 e4, .int .i64 e5, .int .i64 e6, .int .i64 e7, .int .i64 e8, .int .i64 e9, .int .i64 0, .int .i64 a1, .int .i64 a2, .int .i64 a3, .slice sA sl sc] 34)).alloc (.cells #[.int .i64 6, .int .i64 e1, .int .i64 e2, .int .i64 e3, .int .i64 e4, .int .i64 e5, .int .i64 e6, .int .i64 e7, .int .i64 e8, .int .i64 e9] 26)).alloc (.cells #[.int .i64 0, .int .i64 a1, .int .i64 a2, .int .i64 a3] 31) = w1 at r0' r1' r2 h1 O1 ⊢
  have RS1 := Lib.hid r0'
  have RE1 := Lib.hid r1'
  have RA1 := Lib.hid r2
  clear r0' r1' r2
  refine (lright_any 6 e1 e2 e3 e4 e5 e6 e7 e8 e9 w1 true ⟨fun _ => HR.out, fun _ => rfl⟩).mono ?_
  rintro r1 w2 ⟨rfl, bx⟩
  have h2 := h1.below bx
  have O2 : Hid (Only w w2 (Ow q gs gm G)) := Lib.hid (O1.out.tr (Only.of_below bx))
  have RS2 : Hid (w2.heap[Hs]? = some (.cells #[.int .i64 6, .int .i64 e1, .int .i64 e2, .int .i64 e3, .int .i64 e4, .int .i64 e5, .int .i64 e6, .int .i64 e7, .int .i64 e8, .int .i64 e9, .int .i64 0, .int .i64 a1, .int .i64 a2, .int .i64 a3, .slice sA sl sc] 34 (0, 0))) := Lib.hid (by rw [bx.block _ (lt_of_row RS1.out)]; exact RS1.out)
  have RE2 : Hid (w2.heap[(Hs + 1)]? = some (.cells #[.int .i64 6, .int .i64 e1, .int .i64 e2, .int .i64 e3, .int .i64 e4, .int .i64 e5, .int .i64 e6, .int .i64 e7, .int .i64 e8, .int .i64 e9] 26 (0, 0))) := Lib.hid (by rw [bx.block _ (lt_of_row RE1.out)]; exact RE1.out)
  have RA2 : Hid (w2.heap[(Hs + 1 + 1)]? = some (.cells #[.int .i64 0, .int .i64 a1, .int .i64 a2, .int .i64 a3] 31 (0, 0))) := Lib.hid (by rw [bx.block _ (lt_of_row RA1.out)]; exact RA1.out)
  clear h1 O1 RS1 RE1 RA1 bx
  have zA0 := (cellB RA2.out 0 _ rfl : w2.cell? ⟨(Hs + 1 + 1), 0, none⟩ = some (.int .i64 0))
  have zA1 := (cellB RA2.out 1 _ rfl : w2.cell? ⟨(Hs + 1 + 1), 1, none⟩ = some (.int .i64 a1))
  have zA2 := (cellB RA2.out 2 _ rfl : w2.cell? ⟨(Hs + 1 + 1), 2, none⟩ = some (.int .i64 a2))
  have zA3 := (cellB RA2.out 3 _ rfl : w2.cell? ⟨(Hs + 1 + 1), 3, none⟩ = some (.int .i64 a3))
  go_wp2_with fail
  clear zA0 zA1 zA2 zA3
  refine (RA.right_any 0 a1 a2 a3 w2 true ⟨fun _ => HA.out, fun _ => rfl⟩).mono ?_
  rintro r2 w3 ⟨rfl, bx⟩
  have h3 := h2.below bx
  have O3 : Hid (Only w w3 (Ow q gs gm G)) := Lib.hid (O2.out.tr (Only.of_below bx))
  have RS3 : Hid (w3.heap[Hs]? = some (.cells #[.int .i64 6, .int .i64 e1, .int .i64 e2, .int .i64 e3, .int .i64 e4, .int .i64 e5, .int .i64 e6, .int .i64 e7, .int .i64 e8, .int .i64 e9, .int .i64 0, .int .i64 a1, .int .i64 a2, .int .i64 a3, .slice sA sl sc] 34 (0, 0))) := Lib.hid (by rw [bx.block _ (lt_of_row RS2.out)]; exact RS2.out)
  have RE3 : Hid (w3.heap[(Hs + 1)]? = some (.cells #[.int .i64 6, .int .i64 e1, .int .i64 e2, .int .i64 e3, .int .i64 e4, .int .i64 e5, .int .i64 e6, .int .i64 e7, .int .i64 e8, .int .i64 e9] 26 (0, 0))) := Lib.hid (by rw [bx.block _ (lt_of_row RE2.out)]; exact RE2.out)
  have RA3 : Hid (w3.heap[(Hs + 1 + 1)]? = some (.cells #[.int .i64 0, .int .i64 a1, .int .i64 a2, .int .i64 a3] 31 (0, 0))) := Lib.hid (by rw [bx.block _ (lt_of_row RA2.out)]; exact RA2.out)
  clear h2 O2 RS2 RE2 RA2 bx
  have zA0 := (cellB RA3.out 0 _ rfl : w3.cell? ⟨(Hs + 1 + 1), 0, none⟩ = some (.int .i64 0))
  have zE0 := (cellB RE3.out 0 _ rfl : w3.cell? ⟨(Hs + 1), 0, none⟩ = some (.int .i64 6))
  go_wp2
  go_ret
  exact ⟨O3.out, Or.inl ⟨stp_mix HR.out HA.out (by simp) (Or.inr ⟨rfl, rfl⟩), rfl⟩⟩

end Go.Proofs.Ytgpookphacdgoaa.W.U
