/- The law WirePuts: its walk. -/
import Derived.Test.YtlbpbjemaepnmaaWireI
namespace Go.Proofs.Ytlbpbjemaepnmaa.W
open Go.RowKit

theorem puts_next {wr w1 w2 w3 : World} {B g cap L g2 cap2 m2 g' : Nat} {D D2 : List Nat}
    (hown : wr.ownsRow B 5 1 (.slice (some ⟨g, 0, none⟩) L cap) L (D.map bv)) (own2 : w1.ownsRow wr.heap.size 5 1 (.slice (some ⟨g2, 0, none⟩) m2 cap2) m2 (D2.map bv)) (hb2 : Below w1.heap.size w1 w2)
    (hg3 : w2.grownBy w3 (some g)) (hat : g = g' ∨ w2.heap.size ≤ g') : Off w3 g' (some ⟨g2, 0, none⟩) (D2.map bv) := by
  have h1 := own_cap hown
  have h2 := own_cap own2
  have a := Off.own own2 (show g2 ≠ g by omega)
  have b := (a.below hb2).grown hg3
  exact b.other (by have := hb2.size; omega)

theorem own_empty {w : World} {B : Nat} {e : TypeId} (hB : B ≤ w.heap.size) : (w.alloc (.cells #[] e)).ownsRow B e 1 (.slice (some ⟨w.heap.size, 0, none⟩) 0 0) 0 [] := 
  ⟨rfl, Or.inr ⟨_, 0, #[], rfl, hB, heap_alloc_new _ _, by omega, by decide, rfl, rfl⟩⟩

set_option maxRecDepth 100000 in
set_option maxHeartbeats 1600000 in
theorem puts_walk (A : Option Addr) (k c : Nat) (A1 : Option Addr) (k1 c1 : Nat) (ns bs : List Nat) (w : World) (hk : k = ns.length) (hA : Lies w w.heap.size A (ns.map uv)) (hn : ∀ x ∈ ns, x < 18446744073709551616)
    (hk1 : k1 = bs.length) (hc1 : k1 ≤ c1) (hA1 : Lies w w.heap.size A1 (bs.map bv)) (hm1 : k ≤ 9223372036854775807) (hm2 : k1 ≤ 9223372036854775807) :
    Calls Try.prog 3 #[.slice A k c, .slice A1 k1 c1] w fun e w' => e = .returned (.bool true) ∧ Below w.heap.size w w' := by
  obtain ⟨i0, hi, hz0, hz1, hz2⟩ := info_parts infoB
  have HK := Lib.hid hk
  have HK1 := Lib.hid hk1
  have HN := Lib.hid hn
  clear hk hk1 hn
  by_cases h60 : 60 < k
  · go_enter Try.func3, Try.ntmps3
    go_wp2_with fail
    refine (head_any _).mono ?_
    rintro e w1 ⟨rfl, hb1⟩
    go_wp2_with fail
    go_ret
    exact ⟨rfl, hb1⟩
  · by_cases h61 : 60 < k1
    · go_enter Try.func3, Try.ntmps3
      go_wp2_with fail
      refine (head_any _).mono ?_
      rintro e w1 ⟨rfl, hb1⟩
      go_wp2_with fail
      go_ret
      exact ⟨rfl, hb1⟩
    · clear hm1 hm2
      go_enter Try.func3, Try.ntmps3
      go_wp2_with fail
      refine (head_any _).mono ?_
      rintro e w1 ⟨rfl, hb1⟩
      go_wp2_with (at_builtin; refine wpList_appN rfl (.tmp 23) (.tmp 24) 23 rfl w.heap.size 5 i0 (.int .u8 0) 1 Try.underlying23 hi hz0 hz1 hz2 rfl w1.heap.size 0 0 [] rfl (own_empty hb1.size) A1 k1 c1 w.heap.size (bs.map bv) rfl (by simp [HK1.out]) ((hA1.below hb1 (Nat.le_refl _)).keep fun b hb => Below.heap_alloc _ _ _ (by have := hb1.size; omega)) (ones_u8 _) (by omega) (by omega) (by have := hb1.size; simp; omega) ?_; intro g cap w2 own2 hg2 hat2 hlt2; simp only [Nat.zero_add, List.nil_append] at own2 ⊢)
      have hb2 : Below w.heap.size w w2 := (hb1.alloc hb1.size (.cells #[] 5)).grown hg2 (by have := hb1.size; simp; omega) (fun j hj => by injection hj with hj; have := hb1.size; omega)
      have hgb : w.heap.size ≤ g := by rcases hat2 with h | h <;> (have := hb1.size; (try simp at h); omega)
      clear hb1 hg2 hat2 hlt2
      go_loopg [5, 6, 28] k (fun gk vg vw vi wr => ∃ (i : Nat) (A2 : Option Addr) (c2 g cap L : Nat), vi = .int .i64 (i : Int) ∧ vg = .slice A2 L c2 ∧ vw = .slice (some ⟨g, 0, none⟩) L cap ∧ i + gk = k ∧ L ≤ c2 ∧ L ≤ 60 + 10 * i ∧ Hid (L = (bs ++ encs (ns.take i)).length) ∧
        Off wr g A2 ((bs ++ encs (ns.take i)).map bv) ∧ wr.ownsRow w.heap.size 5 1 (.slice (some ⟨g, 0, none⟩) L cap) L ((bs ++ encs (ns.take i)).map bv) ∧ Below w.heap.size w wr)
      case atStart => exact ⟨0, A1, c1, g, cap, k1, rfl, rfl, rfl, by omega, hc1, by omega, by show _ = _; simp [encs, HK1.out], Off.of (by simpa [encs] using hA1.below hb2 (Nat.le_refl _)) hb2.size hgb, by simpa [encs] using own2, hb2⟩
      case round =>
        obtain ⟨i, A2, c2, g, cap, L, rfl, rfl, rfl, hik, hLc, hL, HL, hoff, hown, hbel⟩ := hrel
        have HIK := Lib.hid hik
        by_cases hlt : i < k
        · obtain ⟨ad, n, rfl, hblk, hn, hcn⟩ := hA.num (show i < ns.length by rw [← HK.out]; exact hlt)
          have hcn' : wr.cell? (ad.add i) = some (uv n) := by rw [hbel.cell (by rw [blk_add]; exact hblk)]; exact hcn
          have nU : n < 18446744073709551616 := HN.out n (List.mem_of_getElem? hn)
          have NU := Lib.hid nU
          have HNi := Lib.hid hn
          have n10 := enc_ten nU
          obtain ⟨ln, hln⟩ : ∃ l, (enc n).length = l := ⟨_, rfl⟩
          rw [hln] at n10
          have HLN := Lib.hid hln
          clear hik hcn hn nU hln
          go_wp2_with fail
          refine (put_any A2 L c2 n (bs ++ encs (ns.take i)) wr HL.out hoff.lies (by omega) NU.out).mono ?_
          rintro e w3 ⟨g2, cap2, m2, HM2, rfl, own3, hb3⟩
          go_wp2_with fail
          refine (bytes_any n w3 NU.out).mono ?_
          rintro e w4 ⟨g3, cap3, m3, HM3, rfl, own4, hb4⟩
          obtain rfl : ln = m3 := HLN.out.symm.trans HM3.out.symm
          have hownB : w4.ownsRow w.heap.size 5 1 (.slice (some ⟨g, 0, none⟩) L cap) L ((bs ++ encs (ns.take i)).map bv) := own_below (own_below hown hb3 (Nat.le_refl _)) hb4 (Nat.le_refl _)
          have hbase : w.heap.size ≤ w4.heap.size := by have := hbel.size; have := hb3.size; have := hb4.size; omega
          go_wp2_with (at_builtin; refine wpList_appN rfl (.tmp 35) (.tmp 37) 23 rfl w.heap.size 5 i0 (.int .u8 0) 1 Try.underlying23 hi hz0 hz1 hz2 rfl g L cap ((bs ++ encs (ns.take i)).map bv) rfl hownB (some ⟨g3, 0, none⟩) ln cap3 w4.heap.size ((enc n).map bv) rfl (by simp [HLN.out]) (lies_own own4) (ones_u8 _) (by omega) (by omega) hbase ?_; intro g5 cap5 w5 own5 hg5 hat5 hlt5)
          have hm2 : m2 = L + ln := by have := HM2.out; have := HL.out; simp [HLN.out] at *; omega
          have en : bs ++ encs (ns.take (i + 1)) = (bs ++ encs (ns.take i)) ++ enc n := by rw [encs_snoc HNi.out, List.append_assoc]
          have hoff5 := puts_next hown own3 hb4 hg5 hat5
          have hgl := own_cap hown
          have hb6 : Below w.heap.size w w5 := (hbel.trans ((hb3.trans (hb4.mono hb3.size)).mono hbel.size)).grown hg5 hbase (fun j hj => by injection hj with hj; omega)
          have hc3 := (own_cap own3).1
          go_roundg (gk - 1)
          case measure => have := HIK.out; omega
          case rel => exact ⟨i + 1, some ⟨g2, 0, none⟩, cap2, g5, cap5, L + ln, by go_num, by rw [hm2], rfl, by have := HIK.out; omega, by omega, by omega, by show _ = _; rw [en, List.length_append, ← HL.out, HLN.out], by rw [en]; exact hoff5, by rw [en, List.map_append]; exact own5, hb6⟩
        · obtain rfl : k = i := by omega
          clear hik
          have eD : bs ++ encs (ns.take k) = bs ++ encs ns := by rw [List.take_of_length_le (by rw [← HK.out]; omega)]
          rw [eD] at HL hoff hown
          obtain ⟨S, hS⟩ : ∃ S, strOf (bs ++ encs ns) = S := ⟨_, rfl⟩
          have s1 := run_str (P := Try.prog) (c := c2) 23 9 5 Try.underlying23 Try.underlying5 Try.underlying9 HL.out hoff.lies
          have s2 := run_str (P := Try.prog) (c := cap) 23 9 5 Try.underlying23 Try.underlying5 Try.underlying9 HL.out (lies_own hown)
          rw [hS] at s1 s2
          have hlen := encs_len ns HN.out
          rw [← HK.out] at hlen
          obtain ⟨T, hT⟩ : ∃ T, (encs ns).length = T := ⟨_, rfl⟩
          have hLT : L = k1 + T := by have := HL.out; rw [List.length_append, ← HK1.out, hT] at this; exact this
          rw [hT] at hlen
          have HT := Lib.hid hT
          have hkL : k1 ≤ L := by omega
          have HLT := Lib.hid hLT
          clear hS eD hT hLT
          go_wp2_with (with_reducible refine wpList_from rfl (.tmp 45) (.tmp 47) 23 rfl 5 i0 Try.underlying23 hi hz1 A2 L c2 k1 _ rfl rfl hkL hLc ?_; intro A3 HA3)
          clear s1 s2
          refine (read_any A3 (L - k1) (c2 - k1) (encs ns) wr (by rw [HT.out, HLT.out]; omega) (by
            have := lies_far (a := k1) hoff.lies HL.out HA3.out
            rw [HK1.out, List.drop_left] at this; exact this) (encs_byte ns) (by omega)).mono ?_
          rintro e w3 ⟨r, rfl, hr, hR, hb3⟩
          have hb4 := hbel.trans (hb3.mono hbel.size)
          have hr4 : w.heap.size ≤ r := by have := hbel.size; omega
          clear hb3 hr
          clear hbel hoff hown HIK
          go_wp2_with fail
          go_loopg [52] k (fun gk2 vi wz => ∃ j : Nat, vi = .int .i64 (j : Int) ∧ j + gk2 = k ∧ Rd wz r (encs ns) (encs (ns.take j)).length 0 ∧ Below w.heap.size w wz)
          case atStart => exact ⟨0, rfl, by omega, hR, hb4⟩
          case round =>
            obtain ⟨j, rfl, hjk, hRz, hbz⟩ := hrel
            have HJK := Lib.hid hjk
            by_cases hj : j < k
            · obtain ⟨ad, n, rfl, hblk, hn, hcn⟩ := hA.num (show j < ns.length by rw [← HK.out]; exact hj)
              have hcn' : wr.cell? (ad.add j) = some (uv n) := by rw [hbz.cell (by rw [blk_add]; exact hblk)]; exact hcn
              have nU : n < 18446744073709551616 := HN.out n (List.mem_of_getElem? hn)
              have ep := encs_part hn
              have M := Lib.hid (more_yes (bs := encs ns) (a := (encs (ns.take j)).length) (by rw [ep]; have := enc_pos n; simp; omega))
              have hnum := num_any r _ 0 18446744073709551615 _ (wr) hRz
              have E := n_enc (pre := encs (ns.take j)) (r := encs (ns.drop (j + 1))) (n := n) (most := 18446744073709551615) nU (by omega)
              rw [← ep] at E
              have E1 := Lib.hid E.1
              have E2 := Lib.hid (E.2.1.trans (show _ = (encs (ns.take (j + 1))).length by rw [encs_snoc hn, List.length_append]))
              have E3 := Lib.hid E.2.2
              clear hcn hn nU ep E hnum hjk
              go_wp2_with fail
              refine (more_any r _ 0 _ _ hRz).mono ?_
              rintro e w4 ⟨rfl, q, rfl⟩
              rw [M.out]
              have hR4 := hRz.drewN q
              have hb5 := below_drewN hbz q
              go_wp2_with fail
              refine (num_any r _ 0 18446744073709551615 _ _ hR4).mono ?_
              rintro e w5 ⟨rfl, hR5, hg5⟩
              rw [E2.out, E3.out] at hR5
              rw [E1.out]
              have hb6 := below_num hb5 hr4 hg5
              clear hR4 hb5 hRz hbz hg5
              go_wp2_with fail
              go_roundg (gk - 1)
              case measure => have := HJK.out; omega
              case rel => exact ⟨j + 1, by go_num, by have := HJK.out; omega, hR5, hb6⟩
            · obtain rfl : k = j := by omega
              have eT : (encs (ns.take k)).length = T := by rw [List.take_of_length_le (by rw [← HK.out]; omega)]; exact HT.out
              rw [eT] at hRz
              have M := Lib.hid (more_end (bs := encs ns) (a := T) (er := 0) (by rw [HT.out]; omega))
              clear eT hjk
              go_wp2_with fail
              refine (more_any r _ 0 _ _ hRz).mono ?_
              rintro e w4 ⟨rfl, q, rfl⟩
              rw [M.out]
              have hR4 := hRz.drewN q
              have hb5 := below_drewN hbz q
              go_wp2_with fail
              refine (err_any r _ 0 _ _ hR4).mono ?_
              rintro e w4 ⟨rfl, rfl⟩
              go_wp2_with fail
              refine (at_any r _ 0 _ _ hR4).mono ?_
              rintro e w4 ⟨rfl, rfl⟩
              go_wp2_with fail
              go_ret
              have := HLT.out
              first | exact ⟨rfl, hb5⟩ | exact ⟨ret_bool (by simp; omega), hb5⟩

theorem puts_law (A : Option Addr) (k c : Nat) (A' : Option Addr) (k' c' : Nat) (xs ys : List Int) (w : World) (hk : xs.length = k) (hc : k ≤ c) (hm : c ≤ maxLen) (hA : Lies w w.heap.size A (xs.map (Value.int .u64))) (hx : ∀ n ∈ xs, (Lit.int .u64 n).wf = true)
    (hk' : ys.length = k') (hc' : k' ≤ c') (hm' : c' ≤ maxLen) (hA' : Lies w w.heap.size A' (ys.map (Value.int .u8))) (hy : ∀ n ∈ ys, (Lit.int .u8 n).wf = true) :
    Calls Try.prog 3 #[.slice A k c, .slice A' k' c'] w fun e w' => e = .returned (.bool true) ∧ Below w.heap.size w w' := by
  obtain ⟨ns, e1, hn, l1⟩ := nums_u64 hx
  obtain ⟨bs, e2, _, l2⟩ := bytes_u8 hy
  rw [e1] at hA
  rw [e2] at hA'
  simp only [maxLen] at hm hm'
  exact puts_walk A k c A' k' c' ns bs w (by omega) hA hn (by omega) hc' hA' (by omega) (by omega)
end Go.Proofs.Ytlbpbjemaepnmaa.W
