/- The law WireFlags: its walk. -/
import Derived.Test.YtlbpbjemaepnmaaWireJ
namespace Go.Proofs.Ytlbpbjemaepnmaa.W
open Go.RowKit

theorem fB_is (on : Bool) : fB on ≤ 1 ∧ decide (fB on = 1) = on := by cases on <;> decide
theorem flag_at {bs : List Nat} {j x : Nat} (h : bs[j]? = some x) (hx : x ≤ 1) : nV bs j 0 1 = x ∧ nA bs j 0 1 = j + 1 ∧ nE bs j 0 1 = 0 := by
  have d := drop_at h
  have f : fin 0 (bs.drop j) = 1 := by rw [d, fin, if_neg (by omega), if_pos (by omega)]
  have v : val ((bs.drop j).take 1) = x := by rw [d]; simp [val]; omega
  have := n_ok (bs := bs) (a := j) (most := 1) (by omega) (by rw [f, v]; exact hx)
  rw [f, v] at this
  exact this
theorem flag_arg {bs : List Nat} {j x : Nat} (h : bs[j]? = some x) (hx : 1 < x) (h2 : x < 128) : nV bs j 0 1 = 0 ∧ nE bs j 0 1 = 1 := by
  have d := drop_at h
  have f : fin 0 (bs.drop j) = 1 := by rw [d, fin, if_neg (by omega), if_pos (by omega)]
  have v : val ((bs.drop j).take 1) = x := by rw [d]; simp [val]; omega
  have := n_arg (bs := bs) (a := j) (most := 1) (by omega) (by rw [f, v]; exact hx)
  exact ⟨this.1, this.2.2⟩
theorem flag_form {bs : List Nat} {j x : Nat} (h : bs[j]? = some x) (hx : 128 ≤ x) (hj : bs.length = j + 1) : nV bs j 0 1 = 0 ∧ nE bs j 0 1 = 5 := by
  have d : bs.drop j = [x] := by rw [drop_at h, List.drop_of_length_le (show bs.length ≤ j + 1 by omega)]
  have f : fin 0 (bs.drop j) = 0 := by rw [d, fin, if_neg (by omega), if_neg (by omega)]; rfl
  have := n_form (bs := bs) (a := j) (most := 1) f
  exact ⟨this.1, this.2.2⟩
theorem lies_fB {w : World} {B : Nat} {A : Option Addr} {l : List Bool} (h : Lies w B A (l.map Value.bool)) {i : Nat} (hi : i < l.length) : ∃ ad x, A = some ad ∧ ad.block < B ∧ l[i]? = some x ∧ w.cell? (ad.add i) = some (.bool x) := by
  obtain ⟨ad, e, hb, hc⟩ := h i (.bool l[i]) (by rw [List.getElem?_map, List.getElem?_eq_getElem hi]; rfl)
  exact ⟨ad, l[i], e, hb, List.getElem?_eq_getElem hi, hc⟩
theorem take_bool {l : List Bool} {i : Nat} {c : Bool} (hc : l[i]? = some c) : l.take (i + 1) = l.take i ++ [c] := by
  obtain ⟨h, e⟩ := List.getElem?_eq_some_iff.1 hc
  rw [List.take_succ_eq_append_getElem h, e]

set_option maxRecDepth 100000 in
set_option maxHeartbeats 1600000 in
theorem flags_walk (A : Option Addr) (k c odd : Nat) (l : List Bool) (w : World) (hk : k = l.length) (hA : Lies w w.heap.size A (l.map Value.bool)) (ho : odd < 256) (hm1 : k ≤ 9223372036854775807) :
    Calls Try.prog 5 #[.slice A k c, .int .u8 (odd : Int)] w fun e w' => e = .returned (.bool true) ∧ Below w.heap.size w w' := by
  obtain ⟨i0, hi, hz0, hz1, hz2⟩ := info_parts infoB
  have HK := Lib.hid hk
  clear hk
  by_cases h60 : 60 < k
  · go_enter Try.func5, Try.ntmps5
    go_wp2_with fail
    refine (head_any _).mono ?_
    rintro e w1 ⟨rfl, hb1⟩
    go_wp2_with fail
    go_ret
    exact ⟨rfl, hb1⟩
  · clear hm1
    go_enter Try.func5, Try.ntmps5
    go_wp2_with fail
    refine (head_any _).mono ?_
    rintro e w1 ⟨rfl, hb1⟩
    go_wp2_with fail
    go_loopg [5, 20] k (fun gk vb vi wr => ∃ (i : Nat) (A2 : Option Addr) (c2 : Nat), vi = .int .i64 (i : Int) ∧ vb = .slice A2 i c2 ∧ i + gk = k ∧ Lies wr wr.heap.size A2 (((l.take i).map fB).map bv) ∧ Below w.heap.size w wr)
    case atStart => exact ⟨0, _, 0, rfl, rfl, by omega, Lies.nil _ _ _, hb1.alloc hb1.size _⟩
    case round =>
      obtain ⟨i, A2, c2, rfl, rfl, hik, hL, hbel⟩ := hrel
      have HIK := Lib.hid hik
      by_cases hlt : i < k
      · obtain ⟨ad, on, rfl, hblk, hn, hcn⟩ := lies_fB hA (show i < l.length by rw [← HK.out]; exact hlt)
        have hcn' : wr.cell? (ad.add i) = some (.bool on) := by rw [hbel.cell (by rw [blk_add]; exact hblk)]; exact hcn
        have HNi := Lib.hid hn
        clear hik hcn hn
        go_wp2_with fail
        refine (flag_any A2 i c2 on ((l.take i).map fB) wr (by rw [List.length_map, List.length_take, ← HK.out]; omega) hL (by omega)).mono ?_
        rintro e w3 ⟨g2, cap2, m2, HM2, rfl, own3, hb3⟩
        obtain rfl : i + 1 = m2 := by have := HM2.out; simp [← HK.out] at this; omega
        go_wp2_with fail
        have hb4 := hbel.trans (hb3.mono hbel.size)
        go_roundg (gk - 1)
        case measure => have := HIK.out; omega
        case rel => exact ⟨i + 1, _, _, by go_num, rfl, by have := HIK.out; omega, by rw [take_bool HNi.out, List.map_append]; exact lies_own own3, hb4⟩
      · obtain rfl : k = i := by omega
        rw [List.take_of_length_le (by rw [← HK.out]; omega)] at hL
        clear hik HIK
        go_wp2_with (first
          | (at_builtin; refine wpList_appN rfl (.tmp 33) (.tmp 34) 23 rfl w.heap.size 5 i0 (.int .u8 0) 1 Try.underlying23 hi hz0 hz1 hz2 rfl wr.heap.size 0 0 [] rfl (own_empty hbel.size) A2 k c2 wr.heap.size ((l.map fB).map bv) rfl (by simp [HK.out]) (hL.keep fun b hb => Below.heap_alloc _ _ _ hb) (ones_u8 _) (by omega) (by omega) (by have := hbel.size; simp; omega) ?_; intro g cap w2 own2 hg2 hat2 hlt2; simp only [Nat.zero_add, List.nil_append] at own2 ⊢)
          | (at_builtin; refine wpList_app1 rfl (.tmp 35) (.tmp 37) 23 rfl w.heap.size 5 i0 (.int .u8 0) 1 Try.underlying23 hi hz0 hz1 hz2 rfl (.slice (some ⟨g, 0, none⟩) k cap) k ((l.map fB).map bv) rfl own2 (.int .u8 (odd : Int)) _ rfl _ rfl rfl (by omega) (by omega) (by have := hbel.size; have := hg2.size; simp at this; omega) ?_; intro g5 cap5 w5 own5 hg5 hat5 hlt5))
        have hb2 : Below w.heap.size w w2 := (hbel.alloc hbel.size (.cells #[] 5)).grown hg2 (by have := hbel.size; simp; omega) (fun j hj => by injection hj with hj; have := hbel.size; omega)
        have hb5 : Below w.heap.size w w5 := hb2.grown hg5 hb2.size (fun j hj => by simp [Value.ownBlock] at hj; have := (own_cap own2).2.2; omega)
        obtain ⟨D, hD⟩ : ∃ D, D = l.map fB ++ [odd] := ⟨_, rfl⟩
        have lD : D.length = k + 1 := by rw [hD]; simp [← HK.out]
        have own6 : w5.ownsRow w.heap.size 5 1 (.slice (some ⟨g5, 0, none⟩) (k + 1) cap5) (k + 1) (D.map bv) := by rw [hD, List.map_append]; exact own5
        have bD : ∀ x ∈ D, x < 256 := by
          intro x hx
          rw [hD] at hx
          rcases List.mem_append.1 hx with h | h
          · obtain ⟨b, _, rfl⟩ := List.mem_map.1 h; have := (fB_is b).1; omega
          · simp at h; omega
        have hDi : ∀ (j : Nat) (b : Bool), l[j]? = some b → D[j]? = some (fB b) := by
          intro j b hb
          have hj := (List.getElem?_eq_some_iff.1 hb).1
          rw [hD, List.getElem?_append_left (by simpa using hj), List.getElem?_map, hb]; rfl
        have hDk : D[k]? = some odd := by rw [hD, List.getElem?_append_right (by simp [← HK.out])]; simp [← HK.out]
        have LD := Lib.hid lD
        have BD := Lib.hid bD
        have DI := Lib.hid hDi
        have DK := Lib.hid hDk
        have LO := lies_own own6
        clear own2 own5 own6 hg2 hg5 hat2 hat5 hlt2 hlt5 hD lD bD hDi hDk hb2 hbel hL
        refine (read_any (some ⟨g5, 0, none⟩) (k + 1) cap5 D w5 LD.out.symm LO BD.out (by omega)).mono ?_
        rintro e w6 ⟨r, rfl, hr, hR, hb6⟩
        have hb7 := hb5.trans (hb6.mono hb5.size)
        have hr7 : w.heap.size ≤ r := by have := hb5.size; omega
        clear hb5 hb6 hr LO
        go_wp2_with fail
        go_loopg [42] k (fun gk vi wr => ∃ j : Nat, vi = .int .i64 (j : Int) ∧ j + gk = k ∧ Rd wr r D j 0 ∧ Below w.heap.size w wr)
        case atStart => exact ⟨0, rfl, by omega, hR, hb7⟩
        case round =>
          obtain ⟨j, rfl, hjk, hRz, hbz⟩ := hrel
          have HJK := Lib.hid hjk
          clear hR hb7
          by_cases hj : j < k
          · obtain ⟨ad, on, rfl, hblk, hn, hcn⟩ := lies_fB hA (show j < l.length by rw [← HK.out]; exact hj)
            have hcn' : wr.cell? (ad.add j) = some (.bool on) := by rw [hbz.cell (by rw [blk_add]; exact hblk)]; exact hcn
            have E := Lib.hid (flag_at (DI.out j on hn) (fB_is on).1)
            have F := Lib.hid (fB_is on).2
            clear hcn hn hjk
            go_wp2_with fail
            refine (rflag_any r j 0 _ _ hRz).mono ?_
            rintro e w7 ⟨rfl, hR7, hg7⟩
            rw [E.out.2.1, E.out.2.2] at hR7
            rw [E.out.1, F.out]
            have hb8 := below_num hbz hr7 hg7
            clear hRz hbz hg7
            go_wp2_with fail
            go_roundg (gk - 1)
            case measure => have := HJK.out; omega
            case rel => exact ⟨j + 1, by go_num, by have := HJK.out; omega, hR7, hb8⟩
          · obtain rfl : k = j := by omega
            clear hjk HJK
            rcases (show odd = 0 ∨ odd = 1 ∨ (2 ≤ odd ∧ odd < 128) ∨ 128 ≤ odd by omega) with rfl | rfl | ⟨o1, o2⟩ | o1
            · have E := Lib.hid (flag_at DK.out (by omega))
              go_wp2_with fail
              refine (rflag_any r k 0 _ _ hRz).mono ?_
              rintro e w7 ⟨rfl, hR7, hg7⟩
              rw [E.out.2.2] at hR7
              rw [E.out.1]
              have hb8 := below_num hbz hr7 hg7
              go_wp2_with fail
              refine (err_any r _ 0 _ _ hR7).mono ?_
              rintro e w4 ⟨rfl, rfl⟩
              go_wp2_with fail
              go_ret
              exact ⟨rfl, hb8⟩
            · have E := Lib.hid (flag_at DK.out (by omega))
              go_wp2_with fail
              refine (rflag_any r k 0 _ _ hRz).mono ?_
              rintro e w7 ⟨rfl, hR7, hg7⟩
              rw [E.out.2.2] at hR7
              rw [E.out.1]
              have hb8 := below_num hbz hr7 hg7
              go_wp2_with fail
              refine (err_any r _ 0 _ _ hR7).mono ?_
              rintro e w4 ⟨rfl, rfl⟩
              go_wp2_with fail
              go_ret
              exact ⟨rfl, hb8⟩
            · have E := Lib.hid (flag_arg DK.out (by omega) o2)
              go_wp2_with fail
              refine (rflag_any r k 0 _ _ hRz).mono ?_
              rintro e w7 ⟨rfl, hR7, hg7⟩
              rw [E.out.2] at hR7
              rw [E.out.1]
              have hb8 := below_num hbz hr7 hg7
              go_wp2_with fail
              refine (err_any r _ 1 _ _ hR7).mono ?_
              rintro e w4 ⟨rfl, rfl⟩
              go_wp2_with fail
              go_ret
              exact ⟨rfl, hb8⟩
            · have E := Lib.hid (flag_form DK.out o1 LD.out)
              go_wp2_with fail
              refine (rflag_any r k 0 _ _ hRz).mono ?_
              rintro e w7 ⟨rfl, hR7, hg7⟩
              rw [E.out.2] at hR7
              rw [E.out.1]
              have hb8 := below_num hbz hr7 hg7
              go_wp2_with fail
              refine (err_any r _ 5 _ _ hR7).mono ?_
              rintro e w4 ⟨rfl, rfl⟩
              go_wp2_with fail
              go_ret
              exact ⟨rfl, hb8⟩

theorem flags_law (A : Option Addr) (k c : Nat) (l : List Bool) (x : Int) (w : World) (hk : l.length = k) (hc : k ≤ c) (hm : c ≤ maxLen) (hA : Lies w w.heap.size A (l.map Value.bool)) (hx : (Lit.int .u8 x).wf = true) :
    Calls Try.prog 5 #[.slice A k c, .int .u8 x] w fun e w' => e = .returned (.bool true) ∧ Below w.heap.size w w' := by
  obtain ⟨a, b⟩ := wf_u8 x hx
  obtain ⟨n, rfl⟩ := Int.eq_ofNat_of_zero_le a
  simp only [maxLen] at hm
  exact flags_walk A k c n l w hk.symm hA (by omega) (by omega)
end Go.Proofs.Ytlbpbjemaepnmaa.W
