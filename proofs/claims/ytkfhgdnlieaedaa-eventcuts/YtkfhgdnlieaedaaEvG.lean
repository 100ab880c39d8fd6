/- A contract of event.All. -/
import Derived.Test.YtkfhgdnlieaedaaEvF
namespace Go.Proofs.Ytkfhgdnlieaedaa.W
open Go.RowKit

theorem info3 {P : Program} {t : TypeId} {z : Value} {s b : Nat} (h : (P.info? t).map (fun i => (i.zero, i.size, i.bytes)) = some (some z, s, b)) : ∃ i, P.info? t = some i ∧ i.zero = some z ∧ i.size = s ∧ i.bytes = b := by
  cases hq : P.info? t with
  | none => simp [hq] at h
  | some i => simp [hq] at h; exact ⟨i, rfl, h.1, h.2.1, h.2.2⟩
theorem encE : Enc ec 10 := ⟨fun _ => rfl, by decide, fun x u hu => by
  simp only [ec, List.mem_cons, List.not_mem_nil, or_false] at hu
  rcases hu with rfl | rfl | rfl | rfl | rfl | rfl | rfl | rfl | rfl | rfl <;> rfl⟩
theorem infoE : (Try.prog.info? 27).map (fun i => (i.zero, i.size, i.bytes)) = some (some (.agg #[.int .i64 0, .int .i64 0, .int .i64 0, .int .i64 0, .int .i64 0, .int .i64 0, .int .i64 0, .int .i64 0, .int .i64 0, .int .i64 0]), 10, 80) := by kernel_rfl
theorem ev_range (w : World) (q0 q1 q2 q3 q4 q5 q6 q7 q8 q9 : Int) : (w.alloc (.cells #[.int .i64 q0, .int .i64 q1, .int .i64 q2, .int .i64 q3, .int .i64 q4, .int .i64 q5, .int .i64 q6, .int .i64 q7, .int .i64 q8, .int .i64 q9] 27)).rangeAt w.heap.size 0 (ec ⟨q0, q1, q2, q3, q4, q5, q6, q7, q8, q9⟩) := by
  intro j u hu
  rw [Nat.zero_add]
  exact cellL (heap_alloc_new w _) j u hu
/-- The list as a function of places. -/
def Pts (l : List Ev) (T : Nat → Ev) : Prop := ∀ j e, l[j]? = some e → T j = e
theorem Pts.snoc {l : List Ev} {T : Nat → Ev} (h : Pts l T) (e : Ev) : Pts (l ++ [e]) (upd T l.length e) := by
  intro j x hx
  rcases Nat.lt_or_ge j l.length with q | q
  · rw [List.getElem?_append_left q] at hx
    rw [upd_ne _ _ (by omega)]; exact h j x hx
  · rw [List.getElem?_append_right q] at hx
    by_cases e0 : j = l.length
    · subst e0
      simp at hx
      rw [upd_same]; exact hx
    · rw [List.getElem?_eq_none (by simp; omega)] at hx; cases hx

/-- What All answers: a list, a byte, an error. -/
def AllP (w : World) (bs : List Nat) (e : Ending) (w' : World) : Prop :=
  ∃ (l : List Ev) (n b er c : Nat) (A : Option Addr) (G : Option Nat) (T : Nat → Ev), e = .returned (.tuple #[.slice A n c, .int .i64 (b : Int), .int .i64 (er : Int)]) ∧ Hid (n = l.length) ∧ Hid (AllR bs l b er) ∧ Its ec 10 27 w' (.slice A n c) G n T ∧ Hid (Pts l T) ∧ (∀ g, G = some g → w.heap.size ≤ g) ∧ Below w.heap.size w w'

set_option maxRecDepth 100000 in
set_option maxHeartbeats 3200000 in
theorem all_any (A : Option Addr) (k c : Nat) (bs : List Nat) (w : World) (hk : k = bs.length) (hA : Lies w w.heap.size A (bs.map bv)) (hb : ∀ x ∈ bs, x < 256) (hl : k ≤ 262144) :
    Calls Try.prog 13 #[.slice A k c] w (AllP w bs) := by
  have HK := Lib.hid hk
  have hmk : decide (262144 < (k : Int)) = false := by simp; omega
  clear hk
  go_enter Try.func13, Try.ntmps13
  go_wp2_with fail
  refine (read_any A k c bs w HK.out hA hb (by omega)).mono ?_
  rintro e w1 ⟨r, rfl, hr, hR, b1⟩
  clear hmk hA
  go_wp2_with fail
  go_loopg [5] k (fun gk vl wr => ∃ (l : List Ev) (n a c2 : Nat) (A2 : Option Addr) (G : Option Nat) (T : Nat → Ev), vl = .slice A2 n c2 ∧ a + gk = k ∧ n ≤ 16384 ∧ Rd wr r bs a 0 ∧ Hid (n = l.length) ∧ Hid (run bs 0 l a) ∧ Its ec 10 27 wr (.slice A2 n c2) G n T ∧ Hid (Pts l T) ∧ Hid (∀ g, G = some g → r < g) ∧ Below w.heap.size w wr)
  case atStart => exact ⟨[], 0, 0, 0, none, none, fun _ => zero, rfl, by omega, by omega, hR, rfl, rfl, Or.inl ⟨rfl, rfl, rfl⟩, Lib.hid (fun j e q => by simp at q), Lib.hid (fun g q => nomatch q), b1⟩
  case round =>
    clear hR b1
    obtain ⟨l, n, a, c2, A2, G, T, rfl, hak, hn, hR, HN, HRUN, itx, HP, HG, bz⟩ := hrel
    have HAK := Lib.hid hak
    have HN16 := Lib.hid hn
    by_cases ha : a < k
    · have M := Lib.hid (more_yes (bs := bs) (a := a) (by rw [← HK.out]; exact ha))
      clear hak hn
      go_wp2_with fail
      refine (more_any r a 0 bs wr hR).mono ?_
      rintro e w2 ⟨rfl, q, rfl⟩
      rw [M.out]
      have hR2 := hR.drewN q
      have o2 : Only wr (wr.drewN q) (fun _ => False) := (Only.refl wr _).drewN q
      have itx2 := itx.kept o2 (fun _ _ q => q)
      have bz2 : Below w.heap.size w (wr.drewN q) := below_drewN bz q
      clear hR itx bz o2
      generalize wr.drewN q = w3 at hR2 itx2 bz2 ⊢
      go_wp2_with fail
      refine (at_any r a 0 bs w3 hR2).mono ?_
      rintro e w4 ⟨rfl, rfl⟩
      go_wp2_with fail
      refine (next_any r a bs w3 hR2).mono ?_
      rintro e w5 ⟨rfl, hR5, o5⟩
      have itx5 := itx2.kept o5 (fun g q h => by have := HG.out g q; omega)
      have b5 : Below w.heap.size w w5 := bz2.trans (o5.below (fun j q => by omega) bz2.size)
      obtain ⟨⟨q0, q1, q2, q3, q4, q5, q6, q7, q8, q9⟩, hq⟩ : ∃ q, nxE bs a = q := ⟨_, rfl⟩
      have HQ := Lib.hid hq
      rw [hq]
      clear hR2 itx2 bz2 o5 hq
      dsimp only [ev]
      go_upto_region 8 with (fail)
      have hboxE := heap_alloc_new w5 (.cells #[.int .i64 q0, .int .i64 q1, .int .i64 q2, .int .i64 q3, .int .i64 q4, .int .i64 q5, .int .i64 q6, .int .i64 q7, .int .i64 q8, .int .i64 q9] 27)
      have oE : Only w5 (w5.alloc (.cells #[.int .i64 q0, .int .i64 q1, .int .i64 q2, .int .i64 q3, .int .i64 q4, .int .i64 q5, .int .i64 q6, .int .i64 q7, .int .i64 q8, .int .i64 q9] 27)) (fun _ => False) := (Only.refl w5 _).alloc _
      have hR6 := hR5.keep (oE.below (B := w5.heap.size) (fun _ q => q.elim) (Nat.le_refl _)) hR5.lt
      have itx6 := itx5.kept oE (fun _ _ q => q)
      have b6 : Below w.heap.size w (w5.alloc (.cells #[.int .i64 q0, .int .i64 q1, .int .i64 q2, .int .i64 q3, .int .i64 q4, .int .i64 q5, .int .i64 q6, .int .i64 q7, .int .i64 q8, .int .i64 q9] 27)) := b5.alloc b5.size _
      obtain ⟨e0, he0⟩ : ∃ e0, w5.heap.size = e0 := ⟨_, rfl⟩
      rw [he0] at hboxE
      try rw [he0]
      clear hR5 itx5 b5 oE
      generalize w5.alloc (.cells #[.int .i64 q0, .int .i64 q1, .int .i64 q2, .int .i64 q3, .int .i64 q4, .int .i64 q5, .int .i64 q6, .int .i64 q7, .int .i64 q8, .int .i64 q9] 27) = w6 at hboxE hR6 itx6 b6 ⊢
      obtain ⟨er, her⟩ : ∃ er, nxF bs a = er := ⟨_, rfl⟩
      rw [her] at hR6
      by_cases hz : er = 0
      · subst hz
        have HER := Lib.hid her
        clear her
        go_wp2_with fail
        refine (err_any r _ 0 _ _ hR6).mono ?_
        rintro e w7 ⟨rfl, rfl⟩
        by_cases hful : n = 16384
        · subst hful
          go_wp2_with fail
          go_ret3
          exact ⟨l, 16384, a, 6, c2, A2, G, T, rfl, HN, Lib.hid ⟨HRUN.out, by have := HN.out; omega, by have := HK.out; omega, Or.inr (Or.inr ⟨by have := HK.out; omega, rfl, HN.out.symm, HER.out⟩)⟩, itx6, HP, fun g q => Nat.le_of_lt (Nat.lt_of_le_of_lt hr (HG.out g q)), b6⟩
        · have hnf : ((n : Int) == 16384) = false := by simp; omega
          have ⟨t0, t1, t2, t3, t4, t5, t6, t7, t8, t9, _⟩ := ten_of hboxE
          have hn1 : n + 1 ≤ maxLen := by have := HN16.out; unfold maxLen; omega
          have hn8 : (n + 1) * 80 ≤ 140737488355328 := by have := HN16.out; omega
          obtain ⟨iE, i1, i2, i3, i4⟩ := info3 infoE
          have hrg := ev_range w6 q0 q1 q2 q3 q4 q5 q6 q7 q8 q9
          have o7 : Only w6 (w6.alloc (.cells #[.int .i64 q0, .int .i64 q1, .int .i64 q2, .int .i64 q3, .int .i64 q4, .int .i64 q5, .int .i64 q6, .int .i64 q7, .int .i64 q8, .int .i64 q9] 27)) (fun _ => False) := (Only.refl w6 _).alloc _
          have itx7 := itx6.kept o7 (fun _ _ q => q)
          have hR7 := hR6.keep (o7.below (B := w6.heap.size) (fun _ q => q.elim) (Nat.le_refl _)) hR6.lt
          have b7 : Below w.heap.size w (w6.alloc (.cells #[.int .i64 q0, .int .i64 q1, .int .i64 q2, .int .i64 q3, .int .i64 q4, .int .i64 q5, .int .i64 q6, .int .i64 q7, .int .i64 q8, .int .i64 q9] 27)) := b6.alloc b6.size _
          go_wp2_with (at_builtin; refine wpList_item_app encE rfl _ _ 22 rfl iE (.agg #[.int .i64 0, .int .i64 0, .int .i64 0, .int .i64 0, .int .i64 0, .int .i64 0, .int .i64 0, .int .i64 0, .int .i64 0, .int .i64 0]) 80 Try.underlying22 i1 i2 i3 i4 rfl (.slice A2 n c2) G n T rfl itx7 ⟨q0, q1, q2, q3, q4, q5, q6, q7, q8, q9⟩ w6.heap.size rfl hrg hn1 hn8 ?_; intro g cap w8 row8 o8 hg8)
          have o8' := o8 (fun j => G = some j) (fun _ q => q)
          have hgr : r < g := by
            rcases hg8 with q | q
            · exact HG.out g q
            · have := hR7.lt; omega
          have hR8 := hR7.keep (o8'.below (B := r + 1) (fun j q => HG.out j q) (by have := hR7.lt; omega)) (by omega)
          have b8 : Below w.heap.size w w8 := b7.trans (o8'.below (fun j q => by have := HG.out j q; omega) b7.size)
          obtain ⟨hok, hdr, hnx⟩ := nx_ok hb HER.out
          have hpos := evB_pos (nxE bs a)
          have hle := nxA_le (bs := bs) (a := a) (by rw [← HK.out]; omega)
          rw [← HK.out] at hle
          have HNX := Lib.hid (show a < nxA bs a ∧ nxA bs a ≤ k by omega)
          have HRN := Lib.hid (run_snoc l HRUN.out (by rw [← HK.out]; exact ha) HER.out HQ.out)
          clear t0 t1 t2 t3 t4 t5 t6 t7 t8 t9 hboxE hR6 itx6 b6 itx7 hR7 b7 hrg o7 o8 o8' hok hdr hnx hpos hle
          go_roundg (k - nxA bs a)
          case measure => have := HNX.out; have := HAK.out; omega
          case rel => exact ⟨l ++ [_], n + 1, nxA bs a, cap, _, some g, _, rfl, by have := HNX.out; omega, by have := HN16.out; omega, hR8, Lib.hid (by rw [List.length_append, ← HN.out]; rfl), HRN, Or.inr ⟨g, cap, rfl, rfl, row8⟩, by have := HP.out.snoc ⟨q0, q1, q2, q3, q4, q5, q6, q7, q8, q9⟩; rw [← HN.out] at this; exact Lib.hid this, Lib.hid (fun g' q => by cases q; exact hgr), b8⟩
      · have hd : ((er : Int) != 0) = true := by simp; omega
        have HER := Lib.hid her
        clear her
        go_wp2_with fail
        refine (err_any r _ er _ _ hR6).mono ?_
        rintro e w7 ⟨rfl, rfl⟩
        go_wp2_with fail
        refine (err_any r _ er _ _ hR6).mono ?_
        rintro e w7 ⟨rfl, rfl⟩
        go_wp2_with fail
        go_ret3
        exact ⟨l, n, a, er, c2, A2, G, T, rfl, HN, Lib.hid ⟨HRUN.out, by have := HN.out; have := HN16.out; omega, by have := HK.out; omega, Or.inr (Or.inl ⟨by have := HK.out; omega, hz, HER.out⟩)⟩, itx6, HP, fun g q => Nat.le_of_lt (Nat.lt_of_le_of_lt hr (HG.out g q)), b6⟩
    · obtain rfl : a = k := by omega
      have M := Lib.hid (more_end (bs := bs) (a := a) (er := 0) (by rw [← HK.out]; omega))
      clear hak hn
      go_wp2_with fail
      refine (more_any r a 0 bs wr hR).mono ?_
      rintro e w2 ⟨rfl, q, rfl⟩
      rw [M.out]
      have o2 : Only wr (wr.drewN q) (fun _ => False) := (Only.refl wr _).drewN q
      have itx2 := itx.kept o2 (fun _ _ q => q)
      have bz2 : Below w.heap.size w (wr.drewN q) := below_drewN bz q
      clear hR itx bz o2
      generalize wr.drewN q = w3 at itx2 bz2 ⊢
      go_wp2_with fail
      go_ret3
      exact ⟨l, n, a, 0, c2, A2, G, T, rfl, HN, Lib.hid ⟨HRUN.out, by have := HN.out; have := HN16.out; omega, by have := HK.out; omega, Or.inl ⟨rfl, HK.out⟩⟩, itx2, HP, fun g q => Nat.le_of_lt (Nat.lt_of_le_of_lt hr (HG.out g q)), bz2⟩

end Go.Proofs.Ytkfhgdnlieaedaa.W
