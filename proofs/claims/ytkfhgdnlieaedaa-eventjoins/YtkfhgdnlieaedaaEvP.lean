/- The frame of EventCuts' law; the law EventReads: its walk. Made by mk_evp.py. -/
import Derived.Test.YtkfhgdnlieaedaaEvO
import Derived.Test.YtkfhgdnlieaedaaAgg
namespace Go.Proofs.Ytkfhgdnlieaedaa.W
open Go.RowKit

theorem ecuts_law (Z : Nat → Int) (cut : Int) (a2 : Option Addr) (k2 c2 : Nat) (xs : List Int) (w : World) (hk : xs.length = k2) (hc : k2 ≤ c2) (hm : c2 ≤ maxLen) (hA : Lies w w.heap.size a2 (xs.map (Value.int .u8))) (hx : ∀ n ∈ xs, (Lit.int .u8 n).wf = true) :
    Calls Try.prog 5 #[.agg (zs Z 10).toArray, .int .i64 cut, .slice a2 k2 c2] w fun e w' => e = .returned (.bool true) ∧ Below w.heap.size w w' := by
  obtain ⟨bs, e2, hb, l2⟩ := bytes_u8 hx
  rw [e2] at hA
  have hz : (zs Z 10).toArray = #[.int .i64 (Z 0), .int .i64 (Z 1), .int .i64 (Z 2), .int .i64 (Z 3), .int .i64 (Z 4), .int .i64 (Z 5), .int .i64 (Z 6), .int .i64 (Z 7), .int .i64 (Z 8), .int .i64 (Z 9)] := rfl
  rw [hz]
  simp only [maxLen] at hm
  exact ecuts_walk _ _ _ _ _ _ _ _ _ _ cut a2 k2 c2 bs w (by omega) hA hb (by omega)

theorem take_ev {l : List Ev} {i : Nat} {e : Ev} (h : l[i]? = some e) : l.take (i + 1) = l.take i ++ [e] := by
  obtain ⟨h1, h2⟩ := List.getElem?_eq_some_iff.1 h
  rw [List.take_succ_eq_append_getElem h1, h2]
/-- What All tells of a few bytes. -/
theorem reads_is {bs : List Nat} {l : List Ev} {b er : Nat} (hb : ∀ x ∈ bs, x < 256) (h : AllR bs l b er) (h3 : bs.length ≤ 300) :
    (∀ e ∈ l, right e) ∧ evsB l = bs.take b ∧ b ≤ bs.length ∧ ((er = 0 ∧ b = bs.length) ∨ (b < bs.length ∧ nxF bs b = er ∧ (er = 1 ∨ er = 5))) := by
  obtain ⟨h1, h2, h4, h5⟩ := h
  obtain ⟨r1, r2, r3⟩ := run_ok hb l h1
  rw [Nat.zero_add] at r3
  have hlen : ∀ (l : List Ev), l.length ≤ (evsB l).length := by
    intro l
    induction l with
    | nil => simp
    | cons e t ih => have := evB_pos e; unfold evsB at *; rw [List.flatMap_cons, List.length_append, List.length_cons]; omega
  refine ⟨r1, ?_, h4, ?_⟩
  · have := congrArg (List.take b) r2
    rw [List.drop_zero, r3, List.take_left] at this
    rw [r3]; exact this.symm
  · rcases h5 with h5 | ⟨h5, h6, h7⟩ | ⟨h5, h6, h7, _⟩
    · exact Or.inl h5
    · refine Or.inr ⟨h5, h7, ?_⟩
      have := nxF_of bs b
      rw [h7] at this
      omega
    · have := hlen l; omega

set_option maxRecDepth 100000 in
set_option maxHeartbeats 3200000 in
theorem ereads_walk (A : Option Addr) (k c : Nat) (bs : List Nat) (w : World) (hk : k = bs.length) (hc : k ≤ c) (hA : Lies w w.heap.size A (bs.map bv)) (hb : ∀ x ∈ bs, x < 256) (hm : k ≤ 9223372036854775807) :
    Calls Try.prog 4 #[.slice A k c] w fun e w' => e = .returned (.bool true) ∧ Below w.heap.size w w' := by
  obtain ⟨i0, hi0, hz0, hz1, hz2⟩ := info_parts infoB1
  have HK := Lib.hid hk
  have HB := Lib.hid hb
  clear hk hb
  by_cases h300 : 300 < k
  · go_enter Try.func4, Try.ntmps4
    go_wp2_with fail
    refine (head16 _).mono ?_
    rintro e w1 ⟨rfl, hb1⟩
    go_wp2_with fail
    go_ret
    exact ⟨rfl, hb1⟩
  · clear hm
    go_enter Try.func4, Try.ntmps4
    go_wp2_with fail
    refine (head16 _).mono ?_
    rintro e w1 ⟨rfl, b1⟩
    have L1 := (hA.below b1 (Nat.le_refl _)).more b1.size
    go_wp2_with fail
    refine (all_any A k c bs w1 HK.out L1 HB.out (by omega)).mono ?_
    rintro e w2 ⟨l, n, b, er, c5, A5, G5, T5, rfl, HN, HALL, its, HP, hG, b2⟩
    obtain ⟨hR, hev, hbk, hend⟩ := reads_is HB.out HALL.out (by rw [← HK.out]; omega)
    have hn16 : n ≤ 16384 := by rw [HN.out]; exact HALL.out.2.1
    rw [← HK.out] at hbk hend
    have HR := Lib.hid hR
    have HEV := Lib.hid hev
    have HEND := Lib.hid hend
    have b12 : Below w.heap.size w w2 := b1.trans (b2.mono b1.size)
    have HG := Lib.hid hG
    clear hR hev hend HALL b1 b2 L1 hG
    go_upto_region 7 with (fail)
    have O3 : (w2.alloc (.cells #[] 5)).ownsRow w.heap.size 5 1 (.slice (some ⟨w2.heap.size, 0, none⟩) 0 0) 0 [] := own_empty b12.size
    have o3 : Only w2 (w2.alloc (.cells #[] 5)) (fun _ => False) := (Only.refl w2 _).alloc _
    have its3 := its.kept o3 (fun _ _ q => q)
    have b3 : Below w.heap.size w (w2.alloc (.cells #[] 5)) := b12.alloc b12.size _
    have hG3 : ∀ g, G5 = some g → g < w2.heap.size := its.lt
    obtain ⟨s0, hs0⟩ : ∃ s0, w2.heap.size = s0 := ⟨_, rfl⟩
    rw [hs0] at O3 hG3
    try rw [hs0]
    have HG3 := Lib.hid hG3
    clear its o3 b12 hs0 hG3
    generalize w2.alloc (.cells #[] 5) = w3 at O3 its3 b3 ⊢
    go_wp2_with fail
    go_loopg [6, 26] n (fun gk va vi wr => ∃ (i m g cg : Nat), vi = .int .i64 (i : Int) ∧ i + gk = n ∧ va = .slice (some ⟨g, 0, none⟩) m cg ∧ m ≤ 31 * i ∧ Hid (m = (evsB (l.take i)).length) ∧ wr.ownsRow w.heap.size 5 1 (.slice (some ⟨g, 0, none⟩) m cg) m ((evsB (l.take i)).map bv) ∧ Its ec 10 27 wr (.slice A5 n c5) G5 n T5 ∧ Hid (∀ g', G5 = some g' → g' ≠ g) ∧ Below w.heap.size w wr)
    case atStart => exact ⟨0, 0, s0, 0, rfl, by omega, rfl, by omega, by show _ = _; simp [evsB], by simpa [evsB] using O3, its3, Lib.hid (fun g' q => by have := HG3.out g' q; omega), b3⟩
    case round =>
      clear O3 its3 b3
      obtain ⟨i, m, g, cg, rfl, hik, rfl, hm31, HM, own, itx, HGN, bz⟩ := hrel
      have HIK := Lib.hid hik
      by_cases hi : i < n
      · obtain ⟨gx, capx, hGx, hsx, rowx⟩ := itx.some_ (by omega)
        injection hsx with e1 e2 e3
        subst e1 e3
        have hgx := HGN.out gx hGx
        have hcx := rowx.cap_.1
        have hii : (i : Int) < (n : Int) := by omega
        obtain ⟨⟨q0, q1, q2, q3, q4, q5, q6, q7, q8, q9⟩, hx⟩ : ∃ x, l[i]? = some x := ⟨_, List.getElem?_eq_getElem (by rw [← HN.out]; exact hi)⟩
        have hT5 := HP.out i _ hx
        have hre : right ⟨q0, q1, q2, q3, q4, q5, q6, q7, q8, q9⟩ := HR.out _ (List.mem_of_getElem? hx)
        have HRE := Lib.hid hre
        have htk := take_ev hx
        have HTK := Lib.hid htk
        have x0 : wr.cell? ⟨gx, i * 10, none⟩ = some (.int .i64 q0) := rowx.cell (c := 0) hi (by rw [hT5]; rfl) rfl
        have x1 : wr.cell? ⟨gx, i * 10 + 1, none⟩ = some (.int .i64 q1) := rowx.cell (c := 1) hi (by rw [hT5]; rfl) rfl
        have x2 : wr.cell? ⟨gx, i * 10 + 2, none⟩ = some (.int .i64 q2) := rowx.cell (c := 2) hi (by rw [hT5]; rfl) rfl
        have x3 : wr.cell? ⟨gx, i * 10 + 3, none⟩ = some (.int .i64 q3) := rowx.cell (c := 3) hi (by rw [hT5]; rfl) rfl
        have x4 : wr.cell? ⟨gx, i * 10 + 4, none⟩ = some (.int .i64 q4) := rowx.cell (c := 4) hi (by rw [hT5]; rfl) rfl
        have x5 : wr.cell? ⟨gx, i * 10 + 5, none⟩ = some (.int .i64 q5) := rowx.cell (c := 5) hi (by rw [hT5]; rfl) rfl
        have x6 : wr.cell? ⟨gx, i * 10 + 6, none⟩ = some (.int .i64 q6) := rowx.cell (c := 6) hi (by rw [hT5]; rfl) rfl
        have x7 : wr.cell? ⟨gx, i * 10 + 7, none⟩ = some (.int .i64 q7) := rowx.cell (c := 7) hi (by rw [hT5]; rfl) rfl
        have x8 : wr.cell? ⟨gx, i * 10 + 8, none⟩ = some (.int .i64 q8) := rowx.cell (c := 8) hi (by rw [hT5]; rfl) rfl
        have x9 : wr.cell? ⟨gx, i * 10 + 9, none⟩ = some (.int .i64 q9) := rowx.cell (c := 9) hi (by rw [hT5]; rfl) rfl
        clear hT5 hx hre htk hik
        go_upto_region 10 with (fail)
        have hbox := heap_alloc_new wr (.cells #[.int .i64 q0, .int .i64 q1, .int .i64 q2, .int .i64 q3, .int .i64 q4, .int .i64 q5, .int .i64 q6, .int .i64 q7, .int .i64 q8, .int .i64 q9] 27)
        have o4 : Only wr (wr.alloc (.cells #[.int .i64 q0, .int .i64 q1, .int .i64 q2, .int .i64 q3, .int .i64 q4, .int .i64 q5, .int .i64 q6, .int .i64 q7, .int .i64 q8, .int .i64 q9] 27)) (fun _ => False) := (Only.refl wr _).alloc _
        have own4 := own_only own o4 (fun q => q)
        have itx4 := itx.kept o4 (fun _ _ q => q)
        have b4 : Below w.heap.size w (wr.alloc (.cells #[.int .i64 q0, .int .i64 q1, .int .i64 q2, .int .i64 q3, .int .i64 q4, .int .i64 q5, .int .i64 q6, .int .i64 q7, .int .i64 q8, .int .i64 q9] 27)) := bz.alloc bz.size _
        have hgl := Off.lt' own
        obtain ⟨e0, he0⟩ : ∃ e0, wr.heap.size = e0 := ⟨_, rfl⟩
        rw [he0] at hbox hgl
        try rw [he0]
        clear x0 x1 x2 x3 x4 x5 x6 x7 x8 x9 own itx bz o4 rowx hcx
        generalize wr.alloc (.cells #[.int .i64 q0, .int .i64 q1, .int .i64 q2, .int .i64 q3, .int .i64 q4, .int .i64 q5, .int .i64 q6, .int .i64 q7, .int .i64 q8, .int .i64 q9] 27) = w4 at hbox own4 itx4 b4 ⊢
        have ⟨t0, t1, t2, t3, t4, t5, t6, t7, t8, t9, _⟩ := ten_of hbox
        go_wp2_with fail
        refine (lright_any q0 q1 q2 q3 q4 q5 q6 q7 q8 q9 w4 true ⟨fun _ => HRE.out, fun _ => rfl⟩).mono ?_
        rintro e w5 ⟨rfl, b45⟩
        have o5 := Only.of_below (S := fun _ => False) b45
        have own5 := own_only own4 o5 (fun q => q)
        have itx5 := itx4.kept o5 (fun _ _ q => q)
        have hbox5 := o5.blk (fun q => q) hbox
        have b5 : Below w.heap.size w w5 := b4.trans (b45.mono b4.size)
        clear t0 t1 t2 t3 t4 t5 t6 t7 t8 t9 hbox own4 itx4 b4 b45 o5
        have ⟨t0, t1, t2, t3, t4, t5, t6, t7, t8, t9, _⟩ := ten_of hbox5
        go_wp2_with fail
        refine (lbytes_any q0 q1 q2 q3 q4 q5 q6 q7 q8 q9 w5 HRE.out).mono ?_
        rintro e w6 ⟨g6, cap6, m6, HM6, rfl, own6, b56⟩
        have o6 := Only.of_below (S := fun _ => False) b56
        have ownG := own_only own5 o6 (fun q => q)
        have itx6 := itx5.kept o6 (fun _ _ q => q)
        have b6 : Below w.heap.size w w6 := b5.trans (b56.mono b5.size)
        have hm6 : m6 ≤ 31 := by rw [HM6.out]; exact evB_len HRE.out
        have hs6 := b6.size
        clear t0 t1 t2 t3 t4 t5 t6 t7 t8 t9 hbox5 own5 itx5 b5 b56 o6
        go_wp2_with (at_builtin; refine wpList_appN rfl _ _ 24 rfl w.heap.size 5 i0 (.int .u8 0) 1 Try.underlying24 hi0 hz0 hz1 hz2 rfl g m cg ((evsB (l.take i)).map bv) rfl ownG (some ⟨g6, 0, none⟩) m6 cap6 w6.heap.size ((evB ⟨q0, q1, q2, q3, q4, q5, q6, q7, q8, q9⟩).map bv) rfl (by simp [HM6.out]) (lies_own own6) (ones_u8 _) (by omega) (by omega) (by omega) ?_; intro g7 cap7 w7 own7 hg7 hat7 hlt7)
        have o7 := Only.grown (S := fun j => j = g) hg7 (Or.inl rfl)
        have itx7 := itx6.kept o7 (fun g' q h => HGN.out g' q h)
        have hgo := (own_cap ownG).2.2
        have b7 : Below w.heap.size w w7 := b6.trans (o7.below (fun j q => by rw [q]; exact hgo) b6.size)
        have hG7 : ∀ g', G5 = some g' → g' ≠ g7 := fun g' q => by
          have h1 := HGN.out g' q
          have h2 := itx6.lt g' q
          rcases hat7 with h | h
          · rw [← h]; exact h1
          · omega
        rw [← List.map_append, ← evsB_snoc, ← HTK.out] at own7
        go_roundg (gk - 1)
        case measure => have := HIK.out; omega
        case rel => exact ⟨i + 1, m + m6, g7, cap7, by go_num, by have := HIK.out; omega, rfl, by omega, by show _ = _; rw [HTK.out, evsB_snoc, List.length_append, ← HM.out, HM6.out], own7, itx7, Lib.hid hG7, b7⟩
      · obtain rfl : i = n := by omega
        have hall : l.take i = l := List.take_of_length_le (by rw [← HN.out]; omega)
        rw [hall, HEV.out] at HM own
        have LA := (hA.below bz (Nat.le_refl _)).more bz.size
        have hmb : m = b := by have := HM.out; rw [List.length_take, ← HK.out] at this; omega
        subst hmb
        obtain ⟨S, hS⟩ : ∃ S, strOf (bs.take m) = S := ⟨_, rfl⟩
        have s1 : ∀ y, (convert 24 9 (.slice (some ⟨g, 0, none⟩) m cg)).run Try.prog (wr.drewN y) = .ok (.string S) (wr.drewN y) := fun y => by
          rw [← hS]
          exact run_str (P := Try.prog) (c := cg) 24 9 5 Try.underlying24 Try.underlying5 Try.underlying9 HM.out ((lies_own own).below (below_drewN (Below.refl _ _) y) (Nat.le_refl _))
        have s2 : ∀ y, (convert 24 9 (.slice A m c)).run Try.prog (wr.drewN y) = .ok (.string S) (wr.drewN y) := fun y => by
          rw [← hS]
          exact run_str (P := Try.prog) (c := c) 24 9 5 Try.underlying24 Try.underlying5 Try.underlying9 HM.out ((by rw [List.map_take]; exact LA.take m : Lies wr wr.heap.size A ((bs.take m).map bv)).below (below_drewN (Below.refl _ _) y) (Nat.le_refl _))
        have hmk : decide ((k : Int) < (m : Int)) = false := by simp; omega
        have hmc : m ≤ c := by omega
        clear hik HIK hall hi hS
        go_wp2_with fail
        go_quiet (fail)
        have b4 : Below w.heap.size w (wr.drewN nq) := below_drewN bz nq
        have LA4 : Lies (wr.drewN nq) (wr.drewN nq).heap.size A (bs.map bv) := LA
        have hnk : decide (k < m) = false := by simp; omega
        have hm0 : decide ((m : Int) < 0) = false := by simp
        clear s1 s2 itx own bz LA hmk
        generalize wr.drewN nq = w4 at b4 LA4 ⊢
        rcases HEND.out with ⟨rfl, rfl⟩ | ⟨hlt, hF, her⟩
        · go_wp2_with fail
          go_ret
          exact ⟨rfl, b4⟩
        · have hml : m ≤ k := by omega
          have HF := Lib.hid hF
          have hmi : (m : Int) < (k : Int) := by omega
          have hd : ((er : Int) == 0) = false := by simp; omega
          have HER := Lib.hid her
          clear hF her
          go_wp2_with (with_reducible refine wpList_from rfl _ _ 24 rfl 5 i0 Try.underlying24 hi0 hz1 A k c m _ rfl rfl hml hc ?_; intro A7 HA7)
          refine (get_bad A7 (k - m) (c - m) (bs.drop m) w4 (by rw [List.length_drop, ← HK.out]) (by omega) (lies_far LA4 HK.out HA7.out) (fun x hx => HB.out x (List.mem_of_mem_drop hx)) (by omega) (by rw [nx_far, HF.out]; have := HER.out; omega)).mono ?_
          rintro e w5 ⟨rfl, b45⟩
          rw [nx_far, HF.out]
          dsimp only [ev, zero]
          go_upto_region 19 with (fail)
          have b5 : Below w.heap.size w w5 := b4.trans (b45.mono b4.size)
          have hy := heap_alloc_new w5 (.cells #[.int .i64 0, .int .i64 0, .int .i64 0, .int .i64 0, .int .i64 0, .int .i64 0, .int .i64 0, .int .i64 0, .int .i64 0, .int .i64 0] 27)
          have b6 : Below w.heap.size w (w5.alloc (.cells #[.int .i64 0, .int .i64 0, .int .i64 0, .int .i64 0, .int .i64 0, .int .i64 0, .int .i64 0, .int .i64 0, .int .i64 0, .int .i64 0] 27)) := b5.alloc b5.size _
          obtain ⟨y0, hy0⟩ : ∃ y0, w5.heap.size = y0 := ⟨_, rfl⟩
          rw [hy0] at hy
          try rw [hy0]
          clear b5 b45 b4 LA4
          generalize w5.alloc (.cells #[.int .i64 0, .int .i64 0, .int .i64 0, .int .i64 0, .int .i64 0, .int .i64 0, .int .i64 0, .int .i64 0, .int .i64 0, .int .i64 0] 27) = w6 at hy b6 ⊢
          have ⟨v0, v1, v2, v3, v4, v5, v6, v7, v8, v9, _⟩ := ten_of hy
          clear hy
          rcases HER.out with rfl | rfl
          · go_wp2_with fail
            go_ret
            exact ⟨rfl, b6⟩
          · go_wp2_with fail
            go_ret
            exact ⟨rfl, b6⟩

theorem ereads_law (a : Option Addr) (k c : Nat) (xs : List Int) (w : World) (hk : xs.length = k) (hc : k ≤ c) (hm : c ≤ maxLen) (hA : Lies w w.heap.size a (xs.map (Value.int .u8))) (hx : ∀ n ∈ xs, (Lit.int .u8 n).wf = true) :
    Calls Try.prog 4 #[.slice a k c] w fun e w' => e = .returned (.bool true) ∧ Below w.heap.size w w' := by
  obtain ⟨bs, e2, hb, l2⟩ := bytes_u8 hx
  rw [e2] at hA
  simp only [maxLen] at hm
  exact ereads_walk a k c bs w (by omega) hc hA hb (by omega)

end Go.Proofs.Ytkfhgdnlieaedaa.W
