/- The laws WireSizes, WireCuts, WireMosts: walks. -/
import Derived.Test.YtlbpbjemaepnmaaWireE
namespace Go.Proofs.Ytlbpbjemaepnmaa.W
open Go.RowKit

theorem put_nil (n : Nat) (w : World) (hn : n < 18446744073709551616) : Calls Try.prog 11 #[.slice none 0 0, .int .u64 (n : Int)] w (NewB w (enc n)) :=
  put_any none 0 0 n [] w rfl (Lies.nil _ _ _) (by omega) hn

theorem below_next {a b c : World} (h : Below a.heap.size a b) (k : Below b.heap.size b c) : Below a.heap.size a c := h.trans (k.mono h.size)
theorem below3 {a b c d : World} (h : Below a.heap.size a b) (k : Below b.heap.size b c) (l : Below c.heap.size c d) : Below a.heap.size a d := below_next (below_next h k) l
theorem enc_one {a : Nat} : (enc a).length = 1 ↔ a < 128 := by
  constructor
  · intro h
    rcases Nat.lt_or_ge a 128 with k | k
    · exact k
    · rw [enc_big k] at h; have := enc_pos (a / 128); simp at h; rw [h] at this; simp at this
  · intro h; rw [enc_small h]; rfl

set_option maxRecDepth 100000 in
set_option maxHeartbeats 800000 in
theorem sizes_walk (a b : Nat) (ha : a < 18446744073709551616) (hb : b < 18446744073709551616) (w : World) :
    Calls Try.prog 7 #[.int .u64 (a : Int), .int .u64 (b : Int)] w fun e w' => e = .returned (.bool true) ∧ Below w.heap.size w w' := by
  have HA := Lib.hid ha
  have HB := Lib.hid hb
  clear ha hb
  obtain ⟨la, hla⟩ : ∃ l, (enc a).length = l := ⟨_, rfl⟩
  obtain ⟨lb, hlb⟩ : ∃ l, (enc b).length = l := ⟨_, rfl⟩
  have l1 : 1 ≤ la := by rw [← hla]; exact enc_pos a
  have l2 : la ≤ 10 := by rw [← hla]; exact enc_ten HA.out
  have l4 : lb ≤ 10 := by rw [← hlb]; exact enc_ten HB.out
  have key : (a < 128 ∧ la ≤ 1) ∨ (128 ≤ a ∧ 2 ≤ la) := by
    have l5 := enc_one (a := a)
    rw [hla] at l5
    omega
  have key2 : (a ≤ b ∧ la ≤ lb) ∨ b < a := by
    rcases Nat.lt_or_ge b a with h | h
    · exact Or.inr h
    · exact Or.inl ⟨h, by rw [← hla, ← hlb]; exact enc_mono a b h⟩
  have HLA := Lib.hid hla
  have HLB := Lib.hid hlb
  clear hla hlb
  rcases key with ⟨k1, k2⟩ | ⟨k1, k2⟩ <;> rcases key2 with ⟨k3, k4⟩ | k3
  all_goals
    go_enter Try.func7, Try.ntmps7
    go_wp2_with fail
    refine (head_any _).mono ?_
    rintro e w1 ⟨rfl, hb1⟩
    go_wp2_with fail
    refine (put_nil a _ HA.out).mono ?_
    rintro e w2 ⟨g, cap, m, HM, rfl, own, hb2⟩
    obtain rfl : la = m := HLA.out.symm.trans HM.out.symm
    go_wp2_with fail
    refine (put_nil b _ HB.out).mono ?_
    rintro e w3 ⟨g', cap', m, HM', rfl, own', hb3⟩
    obtain rfl : lb = m := HLB.out.symm.trans HM'.out.symm
    clear own own'
    go_wp2_with fail
    go_ret
    first | exact ⟨rfl, below3 hb1 hb2 hb3⟩ | exact ⟨ret_bool (by simp; omega), below3 hb1 hb2 hb3⟩

theorem n_five (n : Nat) : nV (enc n ++ [5]) (enc n).length 0 9 = 5 ∧ nA (enc n ++ [5]) (enc n).length 0 9 = (enc n).length + 1 ∧ nE (enc n ++ [5]) (enc n).length 0 9 = 0 := by
  have := n_enc (pre := enc n) (r := []) (n := 5) (most := 9) (by omega) (by omega)
  rw [enc_small (show 5 < 128 by omega)] at this
  simpa using this

theorem below_num {w w1 w2 : World} {r : Nat} (h : Below w.heap.size w w1) (hr : w.heap.size ≤ r) (hg : w1.grownBy w2 (some r)) : Below w.heap.size w w2 :=
  h.grown hg h.size (fun k hk => by injection hk with hk; omega)
theorem cut_at (cut : Int) (l : Nat) (l1 : 1 ≤ l) (l2 : l ≤ 10) : ∃ q : Nat, wrap64 ((IntKind.u64.wrap cut).tmod (l : Int)) = (q : Int) ∧ q < l := by
  have h0 : 0 ≤ IntKind.u64.wrap cut := by rw [IntKind.wrap_u64]; omega
  have e := Int.tmod_eq_emod_of_nonneg (b := (l : Int)) h0
  have a1 := Int.emod_nonneg (IntKind.u64.wrap cut) (show (l : Int) ≠ 0 by omega)
  have a2 := Int.emod_lt_of_pos (IntKind.u64.wrap cut) (show 0 < (l : Int) by omega)
  refine ⟨(IntKind.u64.wrap cut % (l : Int)).toNat, ?_, by omega⟩
  rw [e, IntWalk.wrap64_in _ ⟨by omega, by omega⟩]; omega

set_option maxRecDepth 100000 in
set_option maxHeartbeats 800000 in
theorem cuts_walk (n : Nat) (cut : Int) (hn : n < 18446744073709551616) (w : World) :
    Calls Try.prog 8 #[.int .u64 (n : Int), .int .i64 cut] w fun e w' => e = .returned (.bool true) ∧ Below w.heap.size w w' := by
  have HN := Lib.hid hn
  clear hn
  obtain ⟨l, hl⟩ : ∃ l, (enc n).length = l := ⟨_, rfl⟩
  have l1 : 1 ≤ l := by rw [← hl]; exact enc_pos n
  have l2 : l ≤ 10 := by rw [← hl]; exact enc_ten HN.out
  have HL := Lib.hid hl
  clear hl
  obtain ⟨q, hq, hql⟩ := cut_at cut l l1 l2
  have f0 : fin 0 ((enc n).take q) = 0 := fin_cut n 0 q (by rw [HL.out]; exact hql)
  have E := Lib.hid (n_form (bs := (enc n).take q) (a := 0) (most := 18446744073709551615) (by simpa using f0))
  have M := Lib.hid (more_err (bs := (enc n).take q) (a := 0) (er := 5) (by omega))
  clear f0
  go_enter Try.func8, Try.ntmps8
  go_wp2_with fail
  refine (head_any _).mono ?_
  rintro e w1 ⟨rfl, hb1⟩
  go_wp2_with fail
  refine (put_nil n _ HN.out).mono ?_
  rintro e w2 ⟨g, cap, m, HM, rfl, own, hb2⟩
  obtain rfl : l = m := HL.out.symm.trans HM.out.symm
  have hcap := (own_cap own).1
  go_wp2_with fail
  have HQ := Lib.hid hq
  clear hq
  refine (read_any (some ⟨g, 0, none⟩) q cap ((enc n).take q) _ (by rw [List.length_take, HL.out]; omega) (by rw [List.map_take]; exact (lies_own own).take q) (fun x hx => enc_byte n x (List.mem_of_mem_take hx)) (by omega)).mono ?_
  rintro e w3 ⟨r, rfl, hr, hR, hb3⟩
  go_wp2_with fail
  refine (num_any r 0 0 18446744073709551615 _ _ hR).mono ?_
  rintro e w4 ⟨rfl, hR4, hg4⟩
  rw [E.out.2.1, E.out.2.2] at hR4
  rw [E.out.1]
  go_wp2_with fail
  refine (err_any r 0 5 _ _ hR4).mono ?_
  rintro e w5 ⟨rfl, rfl⟩
  go_wp2_with fail
  refine (at_any r 0 5 _ _ hR4).mono ?_
  rintro e w5 ⟨rfl, rfl⟩
  go_wp2_with fail
  refine (more_any r 0 5 _ _ hR4).mono ?_
  rintro e w5 ⟨rfl, j, rfl⟩
  rw [M.out]
  go_wp2_with fail
  go_ret
  exact ⟨rfl, below_drewN (below_num (below3 hb1 hb2 hb3) (by have := (below_next hb1 hb2).size; omega) hg4) j⟩
set_option maxRecDepth 100000 in
set_option maxHeartbeats 800000 in
theorem mosts_walk (n most : Nat) (hn : n < 18446744073709551616) (w : World) :
    Calls Try.prog 9 #[.int .u64 (n : Int), .int .u64 (most : Int)] w fun e w' => e = .returned (.bool true) ∧ Below w.heap.size w w' := by
  have HN := Lib.hid hn
  clear hn
  obtain ⟨l, hl⟩ : ∃ l, (enc n).length = l := ⟨_, rfl⟩
  have l1 : 1 ≤ l := by rw [← hl]; exact enc_pos n
  have l2 : l ≤ 10 := by rw [← hl]; exact enc_ten HN.out
  have HL := Lib.hid hl
  clear hl
  have E5 := Lib.hid (enc_small (show 5 < 128 by omega))
  have byt : Hid (∀ x ∈ enc n ++ [5], x < 256) := by
    intro x hx
    rcases List.mem_append.1 hx with h | h
    · exact enc_byte n x h
    · simp at h; omega
  by_cases hm : n ≤ most
  · have E := Lib.hid (n_enc (pre := []) (r := [5]) HN.out hm)
    have F := Lib.hid (n_five n)
    go_enter Try.func9, Try.ntmps9
    go_wp2_with fail
    refine (head_any _).mono ?_
    rintro e w1 ⟨rfl, hb1⟩
    go_wp2_with fail
    refine (put_nil n _ HN.out).mono ?_
    rintro e w2 ⟨g, cap, m, HM, rfl, own, hb2⟩
    obtain rfl : l = m := HL.out.symm.trans HM.out.symm
    go_wp2_with fail
    refine (put_any _ l _ 5 (enc n) _ HL.out.symm (lies_own own) (by omega) (by omega)).mono ?_
    rintro e w3 ⟨g', cap', m, HM', rfl, own', hb3⟩
    rw [E5.out] at HM' own'
    go_wp2_with fail
    refine (read_any _ m _ (enc n ++ [5]) _ HM'.out (lies_own own') byt (by have := HM'.out; simp [HL.out] at this; omega)).mono ?_
    rintro e w4 ⟨r, rfl, hr, hR, hb4⟩
    have hb5 := below_next (below3 hb1 hb2 hb3) hb4
    have hr5 : w.heap.size ≤ r := by have := (below3 hb1 hb2 hb3).size; omega
    clear hb1 hb2 hb3 hb4 own own' hr
    go_wp2_with fail
    refine (num_any r 0 0 most _ _ hR).mono ?_
    rintro e w5 ⟨rfl, hR5, hg5⟩
    have e1 := E.out
    simp only [List.nil_append, List.length_nil, Nat.zero_add] at e1
    rw [e1.2.1, e1.2.2] at hR5
    rw [e1.1]
    clear e1
    have hb6 := below_num hb5 hr5 hg5
    clear hg5 hb5 hR
    go_wp2_with fail
    refine (num_any r _ 0 9 _ _ hR5).mono ?_
    rintro e w6 ⟨rfl, hR6, hg6⟩
    rw [F.out.2.1, F.out.2.2] at hR6
    rw [F.out.1]
    have hb7 := below_num hb6 hr5 hg6
    clear hg6 hb6 hR5
    go_wp2_with fail
    refine (err_any r _ 0 _ _ hR6).mono ?_
    rintro e w7 ⟨rfl, rfl⟩
    go_wp2_with fail
    go_ret
    exact ⟨rfl, hb7⟩
  · have E := Lib.hid (n_enc_arg (pre := []) (r := [5]) HN.out (show most < n by omega))
    have F := Lib.hid (n_err (bs := enc n ++ [5]) (a := 0) (er := 1) (most := 9) (by omega))
    have G := Lib.hid (n_err (bs := enc n ++ [5]) (a := 0) (er := 1) (most := 1) (by omega))
    go_enter Try.func9, Try.ntmps9
    go_wp2_with fail
    refine (head_any _).mono ?_
    rintro e w1 ⟨rfl, hb1⟩
    go_wp2_with fail
    refine (put_nil n _ HN.out).mono ?_
    rintro e w2 ⟨g, cap, m, HM, rfl, own, hb2⟩
    obtain rfl : l = m := HL.out.symm.trans HM.out.symm
    go_wp2_with fail
    refine (put_any _ l _ 5 (enc n) _ HL.out.symm (lies_own own) (by omega) (by omega)).mono ?_
    rintro e w3 ⟨g', cap', m, HM', rfl, own', hb3⟩
    rw [E5.out] at HM' own'
    go_wp2_with fail
    refine (read_any _ m _ (enc n ++ [5]) _ HM'.out (lies_own own') byt (by have := HM'.out; simp [HL.out] at this; omega)).mono ?_
    rintro e w4 ⟨r, rfl, hr, hR, hb4⟩
    have hb5 := below_next (below3 hb1 hb2 hb3) hb4
    have hr5 : w.heap.size ≤ r := by have := (below3 hb1 hb2 hb3).size; omega
    clear hb1 hb2 hb3 hb4 own own' hr
    go_wp2_with fail
    refine (num_any r 0 0 most _ _ hR).mono ?_
    rintro e w5 ⟨rfl, hR5, hg5⟩
    have e1 := E.out
    simp only [List.nil_append, List.length_nil] at e1
    rw [e1.2.1, e1.2.2] at hR5
    rw [e1.1]
    clear e1
    have hb6 := below_num hb5 hr5 hg5
    clear hg5 hb5 hR
    go_wp2_with fail
    refine (err_any r 0 1 _ _ hR5).mono ?_
    rintro e w6 ⟨rfl, rfl⟩
    go_wp2_with fail
    refine (at_any r 0 1 _ _ hR5).mono ?_
    rintro e w6 ⟨rfl, rfl⟩
    go_wp2_with fail
    refine (num_any r 0 1 9 _ _ hR5).mono ?_
    rintro e w6 ⟨rfl, hR6, hg6⟩
    rw [F.out.2.1, F.out.2.2] at hR6
    rw [F.out.1]
    have hb7 := below_num hb6 hr5 hg6
    clear hg6 hb6 hR5
    go_wp2_with fail
    refine (err_any r 0 1 _ _ hR6).mono ?_
    rintro e w7 ⟨rfl, rfl⟩
    go_wp2_with fail
    refine (rflag_any r 0 1 _ _ hR6).mono ?_
    rintro e w7 ⟨rfl, _, hg7⟩
    rw [G.out.1]
    have hb8 := below_num hb7 hr5 hg7
    go_wp2_with fail
    go_ret
    exact ⟨rfl, hb8⟩
theorem nat_u64 {x : Int} (h : (Lit.int .u64 x).wf = true) : ∃ n : Nat, x = (n : Int) ∧ n < 18446744073709551616 := by
  obtain ⟨a, b⟩ := wf_u64 x h
  exact ⟨x.toNat, by omega, by omega⟩
theorem sizes_law (x y : Int) (hx : (Lit.int .u64 x).wf = true) (hy : (Lit.int .u64 y).wf = true) (w : World) :
    Calls Try.prog 7 #[.int .u64 x, .int .u64 y] w fun e w' => e = .returned (.bool true) ∧ Below w.heap.size w w' := by
  obtain ⟨n, rfl, hn⟩ := nat_u64 hx
  obtain ⟨m, rfl, hm⟩ := nat_u64 hy
  exact sizes_walk n m hn hm w
theorem cuts_law (x y : Int) (hx : (Lit.int .u64 x).wf = true) (w : World) :
    Calls Try.prog 8 #[.int .u64 x, .int .i64 y] w fun e w' => e = .returned (.bool true) ∧ Below w.heap.size w w' := by
  obtain ⟨n, rfl, hn⟩ := nat_u64 hx
  exact cuts_walk n y hn w
theorem mosts_law (x y : Int) (hx : (Lit.int .u64 x).wf = true) (hy : (Lit.int .u64 y).wf = true) (w : World) :
    Calls Try.prog 9 #[.int .u64 x, .int .u64 y] w fun e w' => e = .returned (.bool true) ∧ Below w.heap.size w w' := by
  obtain ⟨n, rfl, hn⟩ := nat_u64 hx
  obtain ⟨m, rfl, hm⟩ := nat_u64 hy
  exact mosts_walk n m hn w
end Go.Proofs.Ytlbpbjemaepnmaa.W
