/- The law WireReads: its walk. -/
import Derived.Test.YtlbpbjemaepnmaaWireG
namespace Go.Proofs.Ytlbpbjemaepnmaa.W
open Go.RowKit

theorem bytes_u8 {xs : List Int} (h : ∀ n ∈ xs, (Lit.int .u8 n).wf = true) : ∃ bs : List Nat, xs.map (Value.int .u8) = bs.map bv ∧ (∀ x ∈ bs, x < 256) ∧ bs.length = xs.length := by
  obtain ⟨ns, rfl, hn⟩ := nats_of wf_u8 xs h
  exact ⟨ns, by rw [List.map_map]; rfl, hn, by simp⟩
abbrev uv (b : Nat) : Value := .int .u64 (b : Int)
theorem nums_u64 {xs : List Int} (h : ∀ n ∈ xs, (Lit.int .u64 n).wf = true) : ∃ bs : List Nat, xs.map (Value.int .u64) = bs.map uv ∧ (∀ x ∈ bs, x < 18446744073709551616) ∧ bs.length = xs.length := by
  obtain ⟨ns, rfl, hn⟩ := nats_of wf_u64 xs h
  exact ⟨ns, by rw [List.map_map]; rfl, hn, by simp⟩
theorem Lies.num {w : World} {B : Nat} {A : Option Addr} {f : Nat → Value} {l : List Nat} (h : Lies w B A (l.map f)) {i : Nat} (hi : i < l.length) : ∃ ad x, A = some ad ∧ ad.block < B ∧ l[i]? = some x ∧ w.cell? (ad.add i) = some (f x) := by
  obtain ⟨ad, e, hb, hc⟩ := h i (f l[i]) (by rw [List.getElem?_map, List.getElem?_eq_getElem hi]; rfl)
  exact ⟨ad, l[i], e, hb, List.getElem?_eq_getElem hi, hc⟩

theorem rd_bound {w : World} {r : Nat} {bs : List Nat} {a er : Nat} (h : Rd w r bs a er) : a ≤ bs.length := by
  obtain ⟨_, _, _, _, _, h, _⟩ := h; exact h

theorem lies_far {w : World} {B k a : Nat} {A A' : Option Addr} {bs : List Nat} (h : Lies w B A (bs.map bv)) (hk : k = bs.length) (ha : A' = A.map (·.add a) ∨ k ≤ a) : Lies w B A' ((bs.drop a).map bv) := by
  rcases ha with rfl | ha
  · rw [List.map_drop]; exact h.drop a _ (fun _ => rfl)
  · rw [List.drop_of_length_le (by omega)]; exact Lies.nil _ _ _
theorem more_is (bs : List Nat) (a er k : Nat) (hk : k = bs.length) : (er = 0 ∧ a < k ∧ moreB bs a er = true) ∨ (er = 0 ∧ k ≤ a ∧ moreB bs a er = false) ∨ (er ≠ 0 ∧ moreB bs a er = false) := by
  by_cases h : er = 0
  · subst h
    rcases Nat.lt_or_ge a k with q | q
    · exact Or.inl ⟨rfl, q, more_yes (by omega)⟩
    · exact Or.inr (Or.inl ⟨rfl, q, more_end (by omega)⟩)
  · exact Or.inr (Or.inr ⟨h, more_err h⟩)

set_option maxRecDepth 100000 in
set_option maxHeartbeats 1600000 in
theorem reads_walk (A : Option Addr) (k c : Nat) (A' : Option Addr) (k' c' : Nat) (bs ms : List Nat) (w : World) (hk : k = bs.length) (hc : k ≤ c) (hA : Lies w w.heap.size A (bs.map bv)) (hb : ∀ x ∈ bs, x < 256)
    (hk' : k' = ms.length) (hA' : Lies w w.heap.size A' (ms.map uv)) (hm1 : k ≤ 9223372036854775807) (hm2 : k' ≤ 9223372036854775807) :
    Calls Try.prog 4 #[.slice A k c, .slice A' k' c'] w fun e w' => e = .returned (.bool true) ∧ Below w.heap.size w w' := by
  obtain ⟨i0, hi, hz0, hz1, hz2⟩ := info_parts infoB
  have HK := Lib.hid hk
  have HK' := Lib.hid hk'
  have HB := Lib.hid hb
  clear hk hk' hb
  by_cases h200 : 200 < k
  · go_enter Try.func4, Try.ntmps4
    go_wp2_with fail
    refine (head_any _).mono ?_
    rintro e w1 ⟨rfl, hb1⟩
    go_wp2_with fail
    go_ret
    exact ⟨rfl, hb1⟩
  · by_cases h60 : 60 < k'
    · go_enter Try.func4, Try.ntmps4
      go_wp2_with fail
      refine (head_any _).mono ?_
      rintro e w1 ⟨rfl, hb1⟩
      go_wp2_with fail
      go_ret
      exact ⟨rfl, hb1⟩
    · clear hm1 hm2
      go_enter Try.func4, Try.ntmps4
      go_wp2_with fail
      refine (head_any _).mono ?_
      rintro e w1 ⟨rfl, hb1⟩
      go_wp2_with fail
      refine (read_any A k c bs _ HK.out ((hA.below hb1 (Nat.le_refl _)).more hb1.size) HB.out (by omega)).mono ?_
      rintro e w2 ⟨r, rfl, hr, hR, hb2⟩
      have hb3 := below_next hb1 hb2
      have hr3 : w.heap.size ≤ r := by have := hb1.size; omega
      clear hb1 hb2 hr
      go_wp2_with fail
      go_loopg [6, 7, 28] k' (fun gk va ve vi wr => ∃ i a er : Nat, vi = .int .i64 (i : Int) ∧ va = .int .i64 (a : Int) ∧ ve = .int .i64 (er : Int) ∧ i + gk = k' ∧ Rd wr r bs a er ∧ Below w.heap.size w wr)
      case atStart => exact ⟨0, 0, 0, rfl, rfl, rfl, by omega, hR, hb3⟩
      case round =>
        obtain ⟨i, a, er, rfl, rfl, rfl, hik, hRr, hbel⟩ := hrel
        have hak : a ≤ k := by rw [HK.out]; exact rd_bound hRr
        have HIK := Lib.hid hik
        by_cases hlt : i < k'
        · obtain ⟨ad, m, rfl, hblk, hm, hcm⟩ := hA'.num (show i < ms.length by rw [← HK'.out]; exact hlt)
          have hcm' : wr.cell? (ad.add i) = some (uv m) := by rw [hbel.cell (by rw [blk_add]; exact hblk)]; exact hcm
          clear hik hcm hm
          by_cases he : er = 0
          · subst he
            obtain ⟨v, hv⟩ : ∃ v, nV bs a 0 m = v := ⟨_, rfl⟩
            obtain ⟨n, hn⟩ : ∃ n, nA (bs.drop a) 0 0 m = n := ⟨_, rfl⟩
            obtain ⟨f, hf⟩ : ∃ f, nE bs a 0 m = f := ⟨_, rfl⟩
            obtain ⟨z1, z2, z3⟩ := n_zero bs a m
            have hnk : a + n ≤ k := by rw [HK.out, ← hn, z2]; exact nA_le (by rw [← HK.out]; exact hak)
            have hone : ∀ (B' : Option Addr) (d : Nat), (B' = A.map (·.add a) ∨ k ≤ a) → Calls Try.prog 18 #[.slice B' (k - a) d, uv m] wr fun e w' => e = .returned (.tuple #[.int .u64 (v : Int), .int .i64 (n : Int), .int .i64 (f : Int)]) ∧ wr = w' := by
              intro B' d h
              rw [← hv, ← hn, ← hf, ← z1, ← z3]
              exact one_any B' (k - a) d w.heap.size m (bs.drop a) wr (by rw [List.length_drop, HK.out]) (lies_far (hA.below hbel (Nat.le_refl _)) HK.out h) (fun x hx => HB.out x (List.mem_of_mem_drop hx)) (by omega)
            have hnum := num_any r a 0 m bs wr hRr
            rw [hv, hf, ← z2, hn] at hnum
            have HO := Lib.hid hone
            have HNu := Lib.hid hnum
            clear hone hnum hv hn hf z1 z2 z3 hRr
            rcases more_is bs (a + n) f k HK.out with ⟨f0, f1, f2⟩ | ⟨f0, f1, f2⟩ | ⟨f0, f2⟩
            · have fd : decide ((a : Int) + (n : Int) < (k : Int)) = true := by simp; omega
              have HM := Lib.hid f2
              clear f2
              subst f0
              go_wp2_with (with_reducible refine wpList_from rfl (.tmp 35) (.tmp 36) 23 rfl 5 i0 Try.underlying23 hi hz1 A k c a _ rfl rfl hak hc ?_; intro A2 HA2)
              refine (HO.out _ _ HA2.out).mono ?_
              rintro e w' ⟨rfl, rfl⟩
              go_wp2_with fail
              refine HNu.out.mono ?_
              rintro e w3 ⟨rfl, hR4, hg4⟩
              have hb4 := below_num hbel hr3 hg4
              go_wp2_with fail
              refine (err_any r _ _ _ _ hR4).mono ?_
              rintro e w4 ⟨rfl, rfl⟩
              go_wp2_with fail
              refine (at_any r _ _ _ _ hR4).mono ?_
              rintro e w4 ⟨rfl, rfl⟩
              go_wp2_with fail
              refine (more_any r _ _ _ _ hR4).mono ?_
              rintro e w4 ⟨rfl, j, rfl⟩
              rw [HM.out]
              have hR5 := hR4.drewN j
              have hb5 := below_drewN hb4 j
              clear hR4 hb4
              go_wp2_with fail
              go_roundg (gk - 1)
              case measure => have := HIK.out; omega
              case rel => exact ⟨i + 1, a + n, _, by go_num, by go_num, rfl, by have := HIK.out; omega, hR5, hb5⟩
            · have fd : decide ((a : Int) + (n : Int) < (k : Int)) = false := by simp; omega
              have HM := Lib.hid f2
              clear f2
              subst f0
              go_wp2_with (with_reducible refine wpList_from rfl (.tmp 35) (.tmp 36) 23 rfl 5 i0 Try.underlying23 hi hz1 A k c a _ rfl rfl hak hc ?_; intro A2 HA2)
              refine (HO.out _ _ HA2.out).mono ?_
              rintro e w' ⟨rfl, rfl⟩
              go_wp2_with fail
              refine HNu.out.mono ?_
              rintro e w3 ⟨rfl, hR4, hg4⟩
              have hb4 := below_num hbel hr3 hg4
              go_wp2_with fail
              refine (err_any r _ _ _ _ hR4).mono ?_
              rintro e w4 ⟨rfl, rfl⟩
              go_wp2_with fail
              refine (at_any r _ _ _ _ hR4).mono ?_
              rintro e w4 ⟨rfl, rfl⟩
              go_wp2_with fail
              refine (more_any r _ _ _ _ hR4).mono ?_
              rintro e w4 ⟨rfl, j, rfl⟩
              rw [HM.out]
              have hR5 := hR4.drewN j
              have hb5 := below_drewN hb4 j
              clear hR4 hb4
              go_wp2_with fail
              go_roundg (gk - 1)
              case measure => have := HIK.out; omega
              case rel => exact ⟨i + 1, a + n, _, by go_num, by go_num, rfl, by have := HIK.out; omega, hR5, hb5⟩
            · have fd : ((f : Int) == 0) = false := by simp; omega
              have HM := Lib.hid f2
              clear f2
              go_wp2_with (with_reducible refine wpList_from rfl (.tmp 35) (.tmp 36) 23 rfl 5 i0 Try.underlying23 hi hz1 A k c a _ rfl rfl hak hc ?_; intro A2 HA2)
              refine (HO.out _ _ HA2.out).mono ?_
              rintro e w' ⟨rfl, rfl⟩
              go_wp2_with fail
              refine HNu.out.mono ?_
              rintro e w3 ⟨rfl, hR4, hg4⟩
              have hb4 := below_num hbel hr3 hg4
              go_wp2_with fail
              refine (err_any r _ _ _ _ hR4).mono ?_
              rintro e w4 ⟨rfl, rfl⟩
              go_wp2_with fail
              refine (at_any r _ _ _ _ hR4).mono ?_
              rintro e w4 ⟨rfl, rfl⟩
              go_wp2_with fail
              refine (more_any r _ _ _ _ hR4).mono ?_
              rintro e w4 ⟨rfl, j, rfl⟩
              rw [HM.out]
              have hR5 := hR4.drewN j
              have hb5 := below_drewN hb4 j
              clear hR4 hb4
              go_wp2_with fail
              go_roundg (gk - 1)
              case measure => have := HIK.out; omega
              case rel => exact ⟨i + 1, a + n, _, by go_num, by go_num, rfl, by have := HIK.out; omega, hR5, hb5⟩
          · obtain ⟨e1, e2, e3⟩ := n_err (bs := bs) (a := a) (most := m) he
            have hnum := num_any r a er m bs wr hRr
            rw [e1, e2, e3] at hnum
            have HNu := Lib.hid hnum
            have HM := Lib.hid (more_err (bs := bs) (a := a) he)
            have hd : ((er : Int) == 0) = false := by simp; omega
            clear hnum e1 e2 e3 hRr
            go_wp2_with fail
            refine HNu.out.mono ?_
            rintro e w3 ⟨rfl, hR4, hg4⟩
            have hb4 := below_num hbel hr3 hg4
            go_wp2_with fail
            refine (err_any r _ _ _ _ hR4).mono ?_
            rintro e w4 ⟨rfl, rfl⟩
            go_wp2_with fail
            refine (at_any r _ _ _ _ hR4).mono ?_
            rintro e w4 ⟨rfl, rfl⟩
            go_wp2_with fail
            refine (more_any r _ _ _ _ hR4).mono ?_
            rintro e w4 ⟨rfl, j, rfl⟩
            rw [HM.out]
            have hR5 := hR4.drewN j
            have hb5 := below_drewN hb4 j
            clear hR4 hb4
            go_wp2_with fail
            go_roundg (gk - 1)
            case measure => have := HIK.out; omega
            case rel => exact ⟨i + 1, a, er, by go_num, rfl, rfl, by have := HIK.out; omega, hR5, hb5⟩
        · clear hik
          go_wp2_with fail
          go_ret
          exact ⟨rfl, hbel⟩

theorem reads_law (A : Option Addr) (k c : Nat) (A' : Option Addr) (k' c' : Nat) (xs ys : List Int) (w : World) (hk : xs.length = k) (hc : k ≤ c) (hm : c ≤ maxLen) (hA : Lies w w.heap.size A (xs.map (Value.int .u8))) (hx : ∀ n ∈ xs, (Lit.int .u8 n).wf = true)
    (hk' : ys.length = k') (hc' : k' ≤ c') (hm' : c' ≤ maxLen) (hA' : Lies w w.heap.size A' (ys.map (Value.int .u64))) (hy : ∀ n ∈ ys, (Lit.int .u64 n).wf = true) :
    Calls Try.prog 4 #[.slice A k c, .slice A' k' c'] w fun e w' => e = .returned (.bool true) ∧ Below w.heap.size w w' := by
  obtain ⟨bs, e1, hb, l1⟩ := bytes_u8 hx
  obtain ⟨ms, e2, _, l2⟩ := nums_u64 hy
  rw [e1] at hA
  rw [e2] at hA'
  simp only [maxLen] at hm hm'
  exact reads_walk A k c A' k' c' bs ms w (by omega) hc hA hb (by omega) hA' (by omega) (by omega)
end Go.Proofs.Ytlbpbjemaepnmaa.W
