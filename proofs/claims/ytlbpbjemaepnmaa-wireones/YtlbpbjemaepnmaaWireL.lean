/- The law WireOnes: its walk. -/
import Derived.Test.YtlbpbjemaepnmaaWireK
namespace Go.Proofs.Ytlbpbjemaepnmaa.W
open Go.RowKit

theorem ones_form {bs : List Nat} {a : Nat} (h : fin 0 (bs.drop a) = 0) : nV bs a 0 18446744073709551615 = 0 ∧ nA bs a 0 18446744073709551615 = a ∧ nE bs a 0 18446744073709551615 = 5 := n_form h
theorem ones_ok {bs : List Nat} {a : Nat} (hb : ∀ x ∈ bs, x < 256) (h : fin 0 (bs.drop a) ≠ 0) :
    ∃ v f, nV bs a 0 18446744073709551615 = v ∧ nA bs a 0 18446744073709551615 = a + f ∧ nE bs a 0 18446744073709551615 = 0 ∧ v < 18446744073709551616 ∧ 0 < f ∧ a + f ≤ bs.length ∧ bs.take a ++ enc v = bs.take (a + f) := by
  obtain ⟨o1, o2, _⟩ := fin_ones (bs.drop a) 0 (fun x hx => hb x (List.mem_of_mem_drop hx)) (by omega) h
  have l := fin_le (bs.drop a) 0
  rw [List.length_drop] at l
  have o2' : val ((bs.drop a).take (fin 0 (bs.drop a))) < 18446744073709551616 := by simpa using o2
  obtain ⟨e1, e2, e3⟩ := n_ok (bs := bs) (a := a) (most := 18446744073709551615) h (by omega)
  refine ⟨_, fin 0 (bs.drop a), e1, e2, e3, o2', by omega, by omega, ?_⟩
  rw [o1, List.take_add]

theorem Off.set {w w' : World} {r : Nat} {A : Option Addr} {vs : List Value} (h : Off w r A vs) (hg : w.grownBy w' (some r)) : Off w' r A vs := h.grown hg

set_option maxRecDepth 100000 in
set_option maxHeartbeats 1600000 in
theorem ones_walk (A : Option Addr) (k c : Nat) (bs : List Nat) (w : World) (hk : k = bs.length) (hc : k ≤ c) (hA : Lies w w.heap.size A (bs.map bv)) (hb : ∀ x ∈ bs, x < 256) (hm1 : k ≤ 9223372036854775807) :
    Calls Try.prog 6 #[.slice A k c] w fun e w' => e = .returned (.bool true) ∧ Below w.heap.size w w' := by
  have HK := Lib.hid hk
  have HB := Lib.hid hb
  clear hk hb
  by_cases h200 : 200 < k
  · go_enter Try.func6, Try.ntmps6
    go_wp2_with fail
    refine (head_any _).mono ?_
    rintro e w1 ⟨rfl, hb1⟩
    go_wp2_with fail
    go_ret
    exact ⟨rfl, hb1⟩
  · clear hm1
    go_enter Try.func6, Try.ntmps6
    go_wp2_with fail
    refine (head_any _).mono ?_
    rintro e w1 ⟨rfl, hb1⟩
    go_wp2_with fail
    refine (read_any A k c bs _ HK.out ((hA.below hb1 (Nat.le_refl _)).more hb1.size) HB.out (by omega)).mono ?_
    rintro e w2 ⟨r, rfl, hr, hR, hb2⟩
    have hb3 := below_next hb1 hb2
    have hr3 : w.heap.size ≤ r := by have := hb1.size; omega
    clear hb1 hb2 hr
    go_wp2_with fail
    go_loopg [4] (k + 1) (fun gk vo wr => ∃ (a er : Nat) (A2 : Option Addr) (c2 : Nat), vo = .slice A2 a c2 ∧ Rd wr r bs a er ∧ Off wr r A2 ((bs.take a).map bv) ∧ Below w.heap.size w wr ∧ (er = 0 → a + gk = k + 1))
    case atStart => exact ⟨0, 0, _, 0, rfl, hR.keep ((Below.refl w2.heap.size w2).alloc (Nat.le_refl _) _) hR.lt, by intro j u hu; simp at hu, hb3.alloc hb3.size _, fun _ => by omega⟩
    case round =>
      obtain ⟨a, er, A2, c2, rfl, hRr, hoff, hbel, hgk⟩ := hrel
      have HGK := Lib.hid hgk
      have hak : a ≤ k := by rw [HK.out]; exact rd_bound hRr
      clear hgk hR hb3
      by_cases hmore : er = 0 ∧ a < k
      · obtain ⟨rfl, halt⟩ := hmore
        have HG0 := Lib.hid (HGK.out rfl)
        clear HGK
        have M := Lib.hid (more_yes (bs := bs) (a := a) (by rw [← HK.out]; exact halt))
        by_cases hf : fin 0 (bs.drop a) = 0
        · have E := Lib.hid (ones_form hf)
          clear hf
          go_wp2_with fail
          refine (more_any r a 0 _ _ hRr).mono ?_
          rintro e w4 ⟨rfl, q, rfl⟩
          rw [M.out]
          have hR4 := hRr.drewN q
          have hb4 := below_drewN hbel q
          have hoff4 : Off (wr.drewN q) r A2 ((bs.take a).map bv) := hoff
          clear hRr hbel hoff
          go_wp2_with fail
          refine (at_any r a 0 _ _ hR4).mono ?_
          rintro e w4 ⟨rfl, rfl⟩
          go_wp2_with fail
          refine (num_any r a 0 18446744073709551615 _ _ hR4).mono ?_
          rintro e w5 ⟨rfl, hR5, hg5⟩
          rw [E.out.2.1, E.out.2.2] at hR5
          rw [E.out.1]
          have hb5 := below_num hb4 hr3 hg5
          have hoff5 := hoff4.set hg5
          clear hR4 hb4 hoff4 hg5
          go_wp2_with fail
          refine (err_any r a 5 _ _ hR5).mono ?_
          rintro e w4 ⟨rfl, rfl⟩
          go_wp2_with fail
          go_roundg 0
          case measure => have := HG0.out; omega
          case rel => exact ⟨a, 5, A2, c2, rfl, hR5, hoff5, hb5, fun h => by omega⟩
        · obtain ⟨v, f, e1, e2, e3, hv, hf0, hfk, het⟩ := ones_ok HB.out hf
          have E1 := Lib.hid e1
          have E2 := Lib.hid e2
          have E3 := Lib.hid e3
          have HV := Lib.hid hv
          have HE := Lib.hid het
          rw [← HK.out] at hfk
          clear e1 e2 e3 hv het hf
          go_wp2_with fail
          refine (more_any r a 0 _ _ hRr).mono ?_
          rintro e w4 ⟨rfl, q, rfl⟩
          rw [M.out]
          have hR4 := hRr.drewN q
          have hb4 := below_drewN hbel q
          have hoff4 : Off (wr.drewN q) r A2 ((bs.take a).map bv) := hoff
          clear hRr hbel hoff
          go_wp2_with fail
          refine (at_any r a 0 _ _ hR4).mono ?_
          rintro e w4 ⟨rfl, rfl⟩
          go_wp2_with fail
          refine (num_any r a 0 18446744073709551615 _ _ hR4).mono ?_
          rintro e w5 ⟨rfl, hR5, hg5⟩
          rw [E2.out, E3.out] at hR5
          rw [E1.out]
          have hb5 := below_num hb4 hr3 hg5
          have hoff5 := hoff4.set hg5
          clear hR4 hb4 hoff4 hg5
          go_wp2_with fail
          refine (err_any r _ 0 _ _ hR5).mono ?_
          rintro e w4 ⟨rfl, rfl⟩
          go_wp2_with fail
          refine (put_any A2 a c2 v (bs.take a) _ (by rw [List.length_take, ← HK.out]; omega) hoff5.lies (by omega) HV.out).mono ?_
          rintro e w6 ⟨g2, cap2, m2, HM2, rfl, own3, hb6⟩
          rw [HE.out] at HM2 own3
          obtain rfl : a + f = m2 := by have := HM2.out; rw [List.length_take, ← HK.out] at this; omega
          have hR6 := hR5.keep hb6 hR5.lt
          have hb7 := hb5.trans (hb6.mono hb5.size)
          have hne : g2 ≠ r := by have := (own_cap own3).2.2; have := hR5.lt; omega
          clear hR5 hb5 hb6 hoff5
          go_wp2_with fail
          refine (at_any r _ 0 _ _ hR6).mono ?_
          rintro e w4 ⟨rfl, rfl⟩
          go_wp2_with fail
          go_roundg (gk - f)
          case measure => have := HG0.out; omega
          case rel => exact ⟨a + f, 0, _, _, rfl, hR6, Off.own own3 hne, hb7, fun _ => by have := HG0.out; omega⟩
      · have M : Hid (moreB bs a er = false) := by
          by_cases he : er = 0
          · exact more_end (by rw [← HK.out]; omega)
          · exact more_err he
        go_wp2_with fail
        refine (more_any r a er _ _ hRr).mono ?_
        rintro e w4 ⟨rfl, q, rfl⟩
        rw [M.out]
        have hR4 := hRr.drewN q
        have hb4 := below_drewN hbel q
        have hoff4 : Off (wr.drewN q) r A2 ((bs.take a).map bv) := hoff
        clear hRr hbel hoff
        go_wp2_with fail
        generalize wr.drewN q = W at hR4 hb4 hoff4 ⊢
        obtain ⟨S, hS⟩ : ∃ S, strOf (bs.take a) = S := ⟨_, rfl⟩
        have la : a = (bs.take a).length := by rw [List.length_take, ← HK.out]; omega
        have s1 : ∀ n, (convert 23 9 (.slice A2 a c2)).run Try.prog (W.drewN n) = .ok (.string S) (W.drewN n) := by
          intro n
          rw [← hS]
          exact run_str (P := Try.prog) (w := W.drewN n) 23 9 5 Try.underlying23 Try.underlying5 Try.underlying9 la hoff4.lies
        have s2 : ∀ n, (convert 23 9 (.slice A a c)).run Try.prog (W.drewN n) = .ok (.string S) (W.drewN n) := by
          intro n
          rw [← hS]
          exact run_str (P := Try.prog) (w := W.drewN n) (B := w.heap.size) 23 9 5 Try.underlying23 Try.underlying5 Try.underlying9 la (by rw [List.map_take]; exact (hA.below hb4 (Nat.le_refl _)).take a)
        clear hS
        have LA := Lib.hid la
        clear la
        have hmin : min (a : Int) (k : Int) = (a : Int) := by omega
        have hmin2 : min a k = a := by omega
        by_cases he : er = 0
        · subst he
          obtain rfl : k = a := by omega
          go_quiet ((first | (go_at_call 17; exact Calls.quiet_of_same (quiet_eq (at_any r k 0 bs _ (hR4.drewN _)))) | (go_at_call 16; exact Calls.quiet_of_same (quiet_eq (err_any r k 0 bs _ (hR4.drewN _))))))
          go_wp2
          go_ret
          exact ⟨rfl, below_drewN hb4 _⟩
        · have hd : ((er : Int) != 0) = true := by simp; omega
          go_quiet ((first | (go_at_call 17; exact Calls.quiet_of_same (quiet_eq (at_any r a er bs _ (hR4.drewN _)))) | (go_at_call 16; exact Calls.quiet_of_same (quiet_eq (err_any r a er bs _ (hR4.drewN _))))))
          go_wp2
          go_ret
          exact ⟨rfl, below_drewN hb4 _⟩

theorem ones_law (A : Option Addr) (k c : Nat) (xs : List Int) (w : World) (hk : xs.length = k) (hc : k ≤ c) (hm : c ≤ maxLen) (hA : Lies w w.heap.size A (xs.map (Value.int .u8))) (hx : ∀ n ∈ xs, (Lit.int .u8 n).wf = true) :
    Calls Try.prog 6 #[.slice A k c] w fun e w' => e = .returned (.bool true) ∧ Below w.heap.size w w' := by
  obtain ⟨bs, e1, hb, l1⟩ := bytes_u8 hx
  rw [e1] at hA
  simp only [maxLen] at hm
  exact ones_walk A k c bs w (by omega) hc hA hb (by omega)
end Go.Proofs.Ytlbpbjemaepnmaa.W
