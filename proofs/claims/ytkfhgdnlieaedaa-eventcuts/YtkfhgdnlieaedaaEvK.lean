/- Words for the laws of events; the law EventPuts: its walk. Made by mk_evk.py. -/
import Derived.Test.YtkfhgdnlieaedaaEvJ
import Derived.Test.YtkfhgdnlieaedaaActs
import Derived.Test.YtkfhgdnlieaedaaWireI
import Derived.Test.YtkfhgdnlieaedaaWireH
namespace Go.Proofs.Ytkfhgdnlieaedaa.W
open Go.RowKit

/-- From an address on lie these cells, in a block that is there and none of S. -/
def Away (w : World) (S : Nat → Prop) (A : Option Addr) (vs : List Value) : Prop :=
  ∀ j u, vs[j]? = some u → ∃ ad, A = some ad ∧ ad.block < w.heap.size ∧ ¬ S ad.block ∧ w.cell? (ad.add j) = some u
theorem Away.nil (w : World) (S : Nat → Prop) (A : Option Addr) : Away w S A [] := fun j u hu => by simp at hu
theorem Away.lies {w : World} {S : Nat → Prop} {A : Option Addr} {vs : List Value} (h : Away w S A vs) : Lies w w.heap.size A vs := fun j u hu => by
  obtain ⟨ad, e, h1, _, h3⟩ := h j u hu; exact ⟨ad, e, h1, h3⟩
theorem Away.only {w w' : World} {S S' : Nat → Prop} {A : Option Addr} {vs : List Value} (h : Away w S A vs) (ho : Only w w' S') (hs : ∀ j, S' j → S j ∨ w.heap.size ≤ j) : Away w' S A vs := fun j u hu => by
  obtain ⟨ad, e, h1, h2, h3⟩ := h j u hu
  exact ⟨ad, e, Nat.lt_of_lt_of_le h1 ho.size, h2, ho.cell (by rw [blk_add]; exact fun q => (hs _ q).elim h2 (fun q => by omega)) h3⟩
theorem Away.less {w : World} {S S' : Nat → Prop} {A : Option Addr} {vs : List Value} (h : Away w S A vs) (hs : ∀ j, S' j → S j ∨ w.heap.size ≤ j) : Away w S' A vs := fun j u hu => by
  obtain ⟨ad, e, h1, h2, h3⟩ := h j u hu
  exact ⟨ad, e, h1, fun q => (hs _ q).elim h2 (fun q => by omega), h3⟩
theorem Away.of {w : World} {S : Nat → Prop} {A : Option Addr} {vs : List Value} (h : Lies w w.heap.size A vs) (hs : ∀ ad, A = some ad → ¬ S ad.block) : Away w S A vs := fun j u hu => by
  obtain ⟨ad, e, h1, h3⟩ := h j u hu
  exact ⟨ad, e, h1, hs ad e, h3⟩
/-- A block's ten cells. -/
abbrev Tc (g : Nat) (k n l s r a m c v p : Int) (w : World) : Prop :=
  w.cell? ⟨g, 0, none⟩ = some (.int .i64 k) ∧ w.cell? ⟨g, 1, none⟩ = some (.int .i64 n) ∧ w.cell? ⟨g, 2, none⟩ = some (.int .i64 l) ∧ w.cell? ⟨g, 3, none⟩ = some (.int .i64 s) ∧ w.cell? ⟨g, 4, none⟩ = some (.int .i64 r) ∧
  w.cell? ⟨g, 5, none⟩ = some (.int .i64 a) ∧ w.cell? ⟨g, 6, none⟩ = some (.int .i64 m) ∧ w.cell? ⟨g, 7, none⟩ = some (.int .i64 c) ∧ w.cell? ⟨g, 8, none⟩ = some (.int .i64 v) ∧ w.cell? ⟨g, 9, none⟩ = some (.int .i64 p)
theorem ten_tc {g : Nat} {k n l s r a m c v p : Int} {w0 w : World} (h : Ten g k n l s r a m c v p w0 w) : Tc g k n l s r a m c v p w := by
  obtain ⟨h0, h1, h2, h3, h4, h5, h6, h7, h8, h9, _⟩ := h
  exact ⟨h0, h1, h2, h3, h4, h5, h6, h7, h8, h9⟩
theorem tc_only {g : Nat} {k n l s r a m c v p : Int} {w1 w2 : World} {S : Nat → Prop} (h : Tc g k n l s r a m c v p w1) (ho : Only w1 w2 S) (hg : ¬ S g) : Tc g k n l s r a m c v p w2 := by
  obtain ⟨h0, h1, h2, h3, h4, h5, h6, h7, h8, h9⟩ := h
  exact ⟨ho.cell hg h0, ho.cell hg h1, ho.cell hg h2, ho.cell hg h3, ho.cell hg h4, ho.cell hg h5, ho.cell hg h6, ho.cell hg h7, ho.cell hg h8, ho.cell hg h9⟩
theorem Off.lt' {w : World} {base : Nat} {e : TypeId} {g n cap : Nat} {vs : List Value} (h : w.ownsRow base e 1 (.slice (some ⟨g, 0, none⟩) n cap) n vs) : g < w.heap.size := (own_cap h).2.1
theorem evsB_one (l : List Ev) (e : Ev) : evsB l ++ evB e = evsB (l ++ [e]) := (evsB_snoc l e).symm
theorem own_only {w w' : World} {base : Nat} {e : TypeId} {g n cap : Nat} {vs : List Value} {S : Nat → Prop} (h : w.ownsRow base e 1 (.slice (some ⟨g, 0, none⟩) n cap) n vs) (ho : Only w w' S) (hg : ¬ S g) : w'.ownsRow base e 1 (.slice (some ⟨g, 0, none⟩) n cap) n vs := by
  have hl := (own_cap h).2.1
  obtain ⟨h1, h2⟩ := h
  refine ⟨h1, ?_⟩
  rcases h2 with ⟨hv, _⟩ | ⟨g1, cap1, cur, hv, hb, hh, r⟩
  · cases hv
  · have hv' := hv
    injection hv' with hv' _ _
    injection hv' with hv'
    injection hv' with hv'
    subst hv'
    exact Or.inr ⟨g, cap1, cur, hv, hb, by rw [ho.block g hl hg]; exact hh, r⟩
/-- The i-th event of numbers that came in. -/
def evz (Z : Nat → Int) (i : Nat) : Ev := ⟨Z (i * 10), Z (i * 10 + 1), Z (i * 10 + 2), Z (i * 10 + 3), Z (i * 10 + 4), Z (i * 10 + 5), Z (i * 10 + 6), Z (i * 10 + 7), Z (i * 10 + 8), Z (i * 10 + 9)⟩
theorem ev_new (w : World) (t : TypeId) : Row ec 10 t (w.alloc (.cells #[] t)) w.heap.size 0 0 (fun _ => zero) := ⟨[], heap_alloc_new w _, rfl, Nat.le_refl _, by decide, fun j hj => absurd hj (by omega)⟩
theorem Pts.nil (T : Nat → Ev) : Pts [] T := fun j e h => by simp at h
theorem right_snoc {l : List Ev} {e : Ev} (h : ∀ x ∈ l, right x) (he : right e) : ∀ x ∈ l ++ [e], right x := fun x hx => by
  rcases List.mem_append.1 hx with q | q
  · exact h x q
  · simp at q; rw [q]; exact he
theorem allR_self {R : List Ev} {l : List Ev} {b er : Nat} (hR : ∀ e ∈ R, right e) (h60 : R.length ≤ 16384) (h : AllR (evsB R) l b er) : l = R ∧ b = (evsB R).length ∧ er = 0 := by
  have hr := run_all [] R [] hR
  simp only [List.append_nil, List.nil_append, List.length_nil, Nat.zero_add] at hr
  rcases h.whole hr with q | ⟨q, _⟩
  · exact q
  · omega

set_option maxRecDepth 100000 in
set_option maxHeartbeats 3200000 in
theorem eputs_walk (a0 : Option Addr) (k cap : Nat) (Z : Nat → Int) (w : World) (L : Lies w w.heap.size a0 (zs Z (k * 10))) (hm : k ≤ 9223372036854775807) :
    Calls Try.prog 3 #[.slice a0 k cap] w fun e w' => e = .returned (.bool true) ∧ Below w.heap.size w w' := by
  obtain ⟨i0, hi0, hz0, hz1, hz2⟩ := info_parts infoB1
  obtain ⟨iE, i1, i2, i3, i4⟩ := info3 infoE
  by_cases h60 : 60 < k
  · go_enter Try.func3, Try.ntmps3
    go_wp2_with fail
    refine (head16 _).mono ?_
    rintro e w1 ⟨rfl, hb1⟩
    go_wp2_with fail
    go_ret
    exact ⟨rfl, hb1⟩
  · clear hm
    go_enter Try.func3, Try.ntmps3
    go_wp2_with fail
    refine (head16 _).mono ?_
    rintro e w1 ⟨rfl, b1⟩
    go_upto_region 8 with (fail)
    have O1 : Hid ((w1.alloc (.cells #[] 5)).ownsRow w.heap.size 5 1 (.slice (some ⟨w1.heap.size, 0, none⟩) 0 0) 0 []) := Lib.hid (own_empty b1.size)
    have b2 : Below w.heap.size w (w1.alloc (.cells #[] 5)) := b1.alloc b1.size _
    have hs2 : (w1.alloc (.cells #[] 5)).heap.size = w1.heap.size + 1 := by simp
    have O2 : Hid (((w1.alloc (.cells #[] 5)).alloc (.cells #[] 5)).ownsRow w.heap.size 5 1 (.slice (some ⟨w1.heap.size + 1, 0, none⟩) 0 0) 0 []) := Lib.hid (by have := own_empty (w := w1.alloc (.cells #[] 5)) (e := 5) b2.size; rw [hs2] at this; exact this)
    have b3 : Below w.heap.size w ((w1.alloc (.cells #[] 5)).alloc (.cells #[] 5)) := b2.alloc b2.size _
    have R3 := ev_new ((w1.alloc (.cells #[] 5)).alloc (.cells #[] 5)) 27
    have o3 : Only ((w1.alloc (.cells #[] 5)).alloc (.cells #[] 5)) (((w1.alloc (.cells #[] 5)).alloc (.cells #[] 5)).alloc (.cells #[] 27)) (fun _ => False) := (Only.refl _ _).alloc _
    have hs3 : ((w1.alloc (.cells #[] 5)).alloc (.cells #[] 5)).heap.size = w1.heap.size + 2 := by simp
    have O4 := own_only O2.out o3 (fun q => q)
    have b4 : Below w.heap.size w (((w1.alloc (.cells #[] 5)).alloc (.cells #[] 5)).alloc (.cells #[] 27)) := b3.alloc b3.size _
    rw [hs3] at R3
    obtain ⟨s0, hs0⟩ : ∃ s0, w1.heap.size = s0 := ⟨_, rfl⟩
    have hws : w.heap.size ≤ s0 := by have := b1.size; omega
    rw [hs0] at O4 R3
    try rw [hs0]
    clear O1 O2 b1 b2 b3 o3 hs2 hs3 hs0
    generalize ((w1.alloc (.cells #[] 5)).alloc (.cells #[] 5)).alloc (.cells #[] 27) = w4 at O4 R3 b4 ⊢
    go_wp2_with fail
    go_loopg [3, 4, 5, 22] k (fun gk vb vw va vi wr => ∃ (i n m cb g cg ca : Nat) (A : Option Addr) (R : List Ev) (ga : Nat) (T : Nat → Ev), vi = .int .i64 (i : Int) ∧ i + gk = k ∧ vb = .slice A m cb ∧ vw = .slice (some ⟨g, 0, none⟩) m cg ∧ va = .slice (some ⟨ga, 0, none⟩) n ca ∧ m ≤ cb ∧ Hid (n = R.length ∧ n ≤ i) ∧ Hid (m = (evsB R).length) ∧ Hid (∀ e ∈ R, right e) ∧
        Away wr (fun j => j = g ∨ j = ga) A ((evsB R).map bv) ∧ wr.ownsRow w.heap.size 5 1 (.slice (some ⟨g, 0, none⟩) m cg) m ((evsB R).map bv) ∧ Row ec 10 27 wr ga n ca T ∧ Hid (Pts R T) ∧ Hid (g ≠ ga ∧ w.heap.size ≤ ga) ∧ Below w.heap.size w wr)
    case atStart => exact ⟨0, 0, 0, 0, s0 + 1, 0, 0, some ⟨s0, 0, none⟩, [], s0 + 2, _, rfl, by omega, rfl, rfl, rfl, Nat.le_refl _, Lib.hid ⟨rfl, Nat.le_refl _⟩, rfl, Lib.hid (by simp), Away.nil _ _ _, O4, R3, Lib.hid (Pts.nil _), Lib.hid ⟨by omega, by omega⟩, b4⟩
    case round =>
      clear O4 R3 b4
      obtain ⟨i, n, m, cb, g, cg, ca, A, R, ga, T, rfl, hik, rfl, rfl, rfl, hmc, HN, HM, HR, HA, own, row, HP, HG, bz⟩ := hrel
      have HIK := Lib.hid hik
      by_cases hi : i < k
      · obtain ⟨ad, rfl, hab, hcell⟩ := (L.below bz (Nat.le_refl _)).num (j := i * 10) (by omega)
        have hli : (i : Int) < (k : Int) := by omega
        have hm31 : m ≤ 1860 := by
          have h1 := evsB_len R HR.out
          have h2 := HM.out
          have h3 := HN.out
          omega
        obtain ⟨W0, hW0⟩ : ∃ W0, W0 = wr := ⟨_, rfl⟩
        subst hW0
        have x0 : W0.cell? (ad.add (i * 10)) = some (.int .i64 (Z (i * 10))) := hcell (i * 10) (by omega)
        have x1 := cell_in (c := 0) (hcell (i * 10 + 1) (by omega))
        have x2 := cell_in (c := 1) (hcell (i * 10 + 2) (by omega))
        have x3 := cell_in (c := 2) (hcell (i * 10 + 3) (by omega))
        have x4 := cell_in (c := 3) (hcell (i * 10 + 4) (by omega))
        have x5 := cell_in (c := 4) (hcell (i * 10 + 5) (by omega))
        have x6 := cell_in (c := 5) (hcell (i * 10 + 6) (by omega))
        have x7 := cell_in (c := 6) (hcell (i * 10 + 7) (by omega))
        have x8 := cell_in (c := 7) (hcell (i * 10 + 8) (by omega))
        have x9 := cell_in (c := 8) (hcell (i * 10 + 9) (by omega))
        obtain ⟨q0, hq0⟩ : ∃ q, Z (i * 10) = q := ⟨_, rfl⟩
        obtain ⟨q1, hq1⟩ : ∃ q, Z (i * 10 + 1) = q := ⟨_, rfl⟩
        obtain ⟨q2, hq2⟩ : ∃ q, Z (i * 10 + 2) = q := ⟨_, rfl⟩
        obtain ⟨q3, hq3⟩ : ∃ q, Z (i * 10 + 3) = q := ⟨_, rfl⟩
        obtain ⟨q4, hq4⟩ : ∃ q, Z (i * 10 + 4) = q := ⟨_, rfl⟩
        obtain ⟨q5, hq5⟩ : ∃ q, Z (i * 10 + 5) = q := ⟨_, rfl⟩
        obtain ⟨q6, hq6⟩ : ∃ q, Z (i * 10 + 6) = q := ⟨_, rfl⟩
        obtain ⟨q7, hq7⟩ : ∃ q, Z (i * 10 + 7) = q := ⟨_, rfl⟩
        obtain ⟨q8, hq8⟩ : ∃ q, Z (i * 10 + 8) = q := ⟨_, rfl⟩
        obtain ⟨q9, hq9⟩ : ∃ q, Z (i * 10 + 9) = q := ⟨_, rfl⟩
        have hez : evz Z i = ⟨q0, q1, q2, q3, q4, q5, q6, q7, q8, q9⟩ := by unfold evz; rw [hq0, hq1, hq2, hq3, hq4, hq5, hq6, hq7, hq8, hq9]
        rw [hq0] at x0
        rw [hq1] at x1
        rw [hq2] at x2
        rw [hq3] at x3
        rw [hq4] at x4
        rw [hq5] at x5
        rw [hq6] at x6
        rw [hq7] at x7
        rw [hq8] at x8
        rw [hq9] at x9
        clear hq0 hq1 hq2 hq3 hq4 hq5 hq6 hq7 hq8 hq9
        clear hik hcell hez
        go_upto_region 11 with (fail)
        have hbox := heap_alloc_new W0 (.cells #[.int .i64 q0, .int .i64 q1, .int .i64 q2, .int .i64 q3, .int .i64 q4, .int .i64 q5, .int .i64 q6, .int .i64 q7, .int .i64 q8, .int .i64 q9] 27)
        have o5 : Only W0 (W0.alloc (.cells #[.int .i64 q0, .int .i64 q1, .int .i64 q2, .int .i64 q3, .int .i64 q4, .int .i64 q5, .int .i64 q6, .int .i64 q7, .int .i64 q8, .int .i64 q9] 27)) (fun _ => False) := (Only.refl W0 _).alloc _
        have HA5 := HA.only o5 (fun j q => q.elim)
        have own5 := own_only own o5 (fun q => q)
        have row5 := row.kept o5 (fun q => q)
        have b5 : Below w.heap.size w (W0.alloc (.cells #[.int .i64 q0, .int .i64 q1, .int .i64 q2, .int .i64 q3, .int .i64 q4, .int .i64 q5, .int .i64 q6, .int .i64 q7, .int .i64 q8, .int .i64 q9] 27)) := bz.alloc bz.size _
        have hgl := Off.lt' own
        have hgal := row.lt
        obtain ⟨e0, he0⟩ : ∃ e0, W0.heap.size = e0 := ⟨_, rfl⟩
        rw [he0] at hgl hgal
        rw [he0] at hbox
        try rw [he0]
        clear x0 x1 x2 x3 x4 x5 x6 x7 x8 x9 HA own row bz o5
        generalize W0.alloc (.cells #[.int .i64 q0, .int .i64 q1, .int .i64 q2, .int .i64 q3, .int .i64 q4, .int .i64 q5, .int .i64 q6, .int .i64 q7, .int .i64 q8, .int .i64 q9] 27) = w5 at hbox HA5 own5 row5 b5 ⊢
        have ten := ten_of hbox
        have HS0 := Lib.hid (show Ten e0 q0 q1 q2 q3 q4 q5 q6 q7 q8 q9 w5 w5.drew from keep_ten ten (below_drewN (Below.refl _ _) 1))
        obtain ⟨t0, t1, t2, t3, t4, t5, t6, t7, t8, t9, _⟩ := ten
        clear hbox
        by_cases hr : right ⟨q0, q1, q2, q3, q4, q5, q6, q7, q8, q9⟩
        · have HRT := Lib.hid hr
          clear hr
          go_region_held3 (fun w' => Ten e0 q0 q1 q2 q3 q4 q5 q6 q7 q8 q9 w5 w') (first | exact HS0.out | assumption | exact keep_ten (by assumption) (by assumption))
            (first
              | (go_at_call 9; refine (right_any q0 q1 q2 q3 q4 q5 q6 q7 q8 q9 _ true ⟨fun _ => HRT.out, fun _ => rfl⟩).mono ?_; rintro e w' ⟨rfl, hbw⟩)
              | (go_at_call 10; refine (lright_any q0 q1 q2 q3 q4 q5 q6 q7 q8 q9 _ true ⟨fun _ => HRT.out, fun _ => rfl⟩).mono ?_; rintro e w' ⟨rfl, hbw⟩))
          rename_i hHeld
          have b56 := ten_below hHeld
          have tc6 := ten_tc hHeld
          have o6 := Only.of_below (S := fun _ => False) b56
          have HA6 := HA5.only o6 (fun j q => q.elim)
          have own6 := own_only own5 o6 (fun q => q)
          have row6 := row5.kept o6 (fun q => q)
          have b6 : Below w.heap.size w w' := b5.trans (b56.mono b5.size)
          clear t0 t1 t2 t3 t4 t5 t6 t7 t8 t9 HS0 HA5 own5 row5 b5 o6 hbw b56 hHeld
          have ⟨y0, y1, y2, y3, y4, y5, y6, y7, y8, y9⟩ := tc6
          go_wp2_with fail
          refine (put_yes A m cb q0 q1 q2 q3 q4 q5 q6 q7 q8 q9 (evsB R) w' HM.out HA6.lies (by omega) HRT.out).mono ?_
          rintro e w7 ⟨A2, m2, c2, HM2, rfl, hmc2, hcm2, hL2, hbl2, b67⟩
          have o7 := Only.of_below (S := fun _ => False) b67
          have HA7 : Away w7 (fun j => j = g ∨ j = ga) A2 _ := Away.of hL2 (fun ad q h => by
            have h1 := hbl2 ad q
            have h2 := Off.lt' own6
            have h3 := row6.lt
            omega)
          have own7 := own_only own6 o7 (fun q => q)
          have row7 := row6.kept o7 (fun q => q)
          have tc7 := tc_only tc6 o7 (fun q => q)
          have b7 : Below w.heap.size w w7 := b6.trans (b67.mono b6.size)
          clear HA6 own6 row6 tc6 b6 b67 o7 hL2 hbl2 hcm2 y0 y1 y2 y3 y4 y5 y6 y7 y8 y9
          have ⟨y0, y1, y2, y3, y4, y5, y6, y7, y8, y9⟩ := tc7
          go_wp2_with fail
          refine (lright_any q0 q1 q2 q3 q4 q5 q6 q7 q8 q9 w7 true ⟨fun _ => HRT.out, fun _ => rfl⟩).mono ?_
          rintro e w8 ⟨rfl, b78⟩
          have o8 := Only.of_below (S := fun _ => False) b78
          have HA8 := HA7.only o8 (fun j q => q.elim)
          have own8 := own_only own7 o8 (fun q => q)
          have row8 := row7.kept o8 (fun q => q)
          have tc8 := tc_only tc7 o8 (fun q => q)
          have b8 : Below w.heap.size w w8 := b7.trans (b78.mono b7.size)
          clear HA7 own7 row7 tc7 b7 b78 o8 y0 y1 y2 y3 y4 y5 y6 y7 y8 y9
          have ⟨y0, y1, y2, y3, y4, y5, y6, y7, y8, y9⟩ := tc8
          have hs8 := b8.size
          go_wp2_with fail
          refine (lbytes_any q0 q1 q2 q3 q4 q5 q6 q7 q8 q9 w8 HRT.out).mono ?_
          rintro e w9 ⟨g9, cap9, m9, HM9, rfl, own9, b89⟩
          have o9 := Only.of_below (S := fun _ => False) b89
          have HA9 := HA8.only o9 (fun j q => q.elim)
          have ownG9 := own_only own8 o9 (fun q => q)
          have row9 := row8.kept o9 (fun q => q)
          have tc9 := tc_only tc8 o9 (fun q => q)
          have b9 : Below w.heap.size w w9 := b8.trans (b89.mono b8.size)
          have hs9 := b9.size
          have hm9 : m9 ≤ 31 := by rw [HM9.out]; exact evB_len HRT.out
          have hn60 : n ≤ 60 := by have := HN.out.2; omega
          have hev : evsB R ++ evB ⟨q0, q1, q2, q3, q4, q5, q6, q7, q8, q9⟩ = evsB (R ++ [⟨q0, q1, q2, q3, q4, q5, q6, q7, q8, q9⟩]) := evsB_one R _
          have hmm : m + m9 = m2 := by rw [HM2.out, HM9.out, HM.out, List.length_append]
          have HMM := Lib.hid hmm
          clear HA8 own8 row8 tc8 b8 b89 o9 y0 y1 y2 y3 y4 y5 y6 y7 y8 y9 hmm
          go_upto_region 16 with (first | (at_builtin; refine wpList_appN rfl _ _ 24 rfl w.heap.size 5 i0 (.int .u8 0) 1 Try.underlying24 hi0 hz0 hz1 hz2 rfl g m cg ((evsB R).map bv) rfl ownG9 (some ⟨g9, 0, none⟩) m9 cap9 w9.heap.size ((evB ⟨q0, q1, q2, q3, q4, q5, q6, q7, q8, q9⟩).map bv) rfl (by simp [HM9.out]) (lies_own own9) (ones_u8 _) (by omega) (by omega) (by omega) ?_; intro g10 cap10 w10 own10 hg10 hat10 hlt10))
          have o10 := Only.grown (S := fun j => j = g) hg10 (Or.inl rfl)
          have hga9 : ga < w9.heap.size := row9.lt
          have HGO := HG.out
          have tc10 := tc_only tc9 o10 (by omega)
          have row10 := row9.kept o10 (fun q => HGO.1 q.symm)
          have HAm : Away w9 (fun j => j = g ∨ j = ga ∨ j = g10) A2 _ := HA9.less (fun j q => by rcases q with q | q | q; exact Or.inl (Or.inl q); exact Or.inl (Or.inr q); (rcases hat10 with h | h; exact Or.inl (Or.inl (by omega)); exact Or.inr (by omega)))
          have HA10 := HAm.only o10 (fun j q => Or.inl (Or.inl q))
          have hne10 : g10 ≠ ga ∧ g10 ≠ e0 ∧ e0 ≠ ga := by have h1 := hs9; have h2 : e0 < w9.heap.size := cell_lt tc9.1; omega
          have b10 : Below w.heap.size w w10 := b9.trans (o10.below (fun j q => by rw [q]; exact (own_cap ownG9).2.2) b9.size)
          rw [← List.map_append, hev] at own10
          rw [hev] at HA10 HM2
          have HNE := Lib.hid hne10
          clear HAm HA9 ownG9 row9 tc9 b9 own9 hg10 o10 hev hat10 hlt10 hne10 hs9 HGO
          have hrg := ev_range w10 q0 q1 q2 q3 q4 q5 q6 q7 q8 q9
          have o11 : Only w10 (w10.alloc (.cells #[.int .i64 q0, .int .i64 q1, .int .i64 q2, .int .i64 q3, .int .i64 q4, .int .i64 q5, .int .i64 q6, .int .i64 q7, .int .i64 q8, .int .i64 q9] 27)) (fun _ => False) := (Only.refl w10 _).alloc _
          have row11 := row10.kept o11 (fun q => q)
          have its11 : Its ec 10 27 (w10.alloc (.cells #[.int .i64 q0, .int .i64 q1, .int .i64 q2, .int .i64 q3, .int .i64 q4, .int .i64 q5, .int .i64 q6, .int .i64 q7, .int .i64 q8, .int .i64 q9] 27)) (.slice (some ⟨ga, 0, none⟩) n ca) (some ga) n T := Or.inr ⟨ga, ca, rfl, rfl, row11⟩
          have HA11 := HA10.only o11 (fun j q => q.elim)
          have own11 := own_only own10 o11 (fun q => q)
          have b11 : Below w.heap.size w (w10.alloc (.cells #[.int .i64 q0, .int .i64 q1, .int .i64 q2, .int .i64 q3, .int .i64 q4, .int .i64 q5, .int .i64 q6, .int .i64 q7, .int .i64 q8, .int .i64 q9] 27)) := b10.alloc b10.size _
          have hnm : n + 1 ≤ maxLen := by unfold maxLen; omega
          have hn8 : (n + 1) * 80 ≤ 140737488355328 := by omega
          have ⟨y0, y1, y2, y3, y4, y5, y6, y7, y8, y9⟩ := tc10
          clear HA10 own10 row10 tc10 row11
          go_wp2_with (at_builtin; refine wpList_item_app encE rfl _ _ 22 rfl iE (.agg #[.int .i64 0, .int .i64 0, .int .i64 0, .int .i64 0, .int .i64 0, .int .i64 0, .int .i64 0, .int .i64 0, .int .i64 0, .int .i64 0]) 80 Try.underlying22 i1 i2 i3 i4 rfl (.slice (some ⟨ga, 0, none⟩) n ca) (some ga) n T rfl its11 ⟨q0, q1, q2, q3, q4, q5, q6, q7, q8, q9⟩ w10.heap.size rfl hrg hnm hn8 ?_; intro ga2 ca2 w12 row12 o12 hat12)
          have o12' := o12 (fun j => ga = j) (fun g' q => by injection q)
          have hg2 : ga = ga2 ∨ w10.heap.size ≤ ga2 := by
            rcases hat12 with h | h
            · injection h with h; exact Or.inl h
            · have := o11.size; exact Or.inr (by omega)
          have own12 := own_only own11 o12' (fun q => HNE.out.1 q.symm)
          have hgl10 := Off.lt' own11
          have HAn : Away (w10.alloc (.cells #[.int .i64 q0, .int .i64 q1, .int .i64 q2, .int .i64 q3, .int .i64 q4, .int .i64 q5, .int .i64 q6, .int .i64 q7, .int .i64 q8, .int .i64 q9] 27)) (fun j => j = ga ∨ j = g10 ∨ j = ga2) A2 _ := HA11.less (fun j q => by
            rcases q with q | q | q
            · exact Or.inl (Or.inr (Or.inl q))
            · exact Or.inl (Or.inr (Or.inr q))
            · rcases hat12 with h | h
              · injection h with h; exact Or.inl (Or.inr (Or.inl (by omega)))
              · exact Or.inr (by omega))
          have HA12 := (HAn.only o12' (fun j q => Or.inl (Or.inl q.symm))).less (S' := fun j => j = g10 ∨ j = ga2) (fun j q => Or.inl (Or.inr q))
          have hgaw := HG.out.2
          have b12 : Below w.heap.size w w12 := b11.trans (o12'.below (fun j q => by rw [← q]; exact hgaw) b11.size)
          have hg10a : g10 ≠ ga2 ∧ w.heap.size ≤ ga2 := by
            have h1 := HNE.out.1
            have h2 := (own_cap own11).2.1
            have h3 := b10.size
            rcases hat12 with h | h
            · injection h with h; omega
            · omega
          clear HA11 HAn own11 its11 b11 hrg o11 o12 o12' y0 y1 y2 y3 y4 y5 y6 y7 y8 y9 hgaw
          go_wp2_with fail
          go_roundg (gk - 1)
          case measure => have := HIK.out; omega
          case rel => exact ⟨i + 1, n + 1, m2, c2, g10, cap10, ca2, A2, R ++ [⟨q0, q1, q2, q3, q4, q5, q6, q7, q8, q9⟩], ga2, _, by go_num, by have := HIK.out; omega, rfl, by rw [HMM.out], rfl, hmc2, Lib.hid ⟨by rw [List.length_append, ← HN.out.1]; rfl, by have := HN.out.2; omega⟩, HM2, Lib.hid (right_snoc HR.out HRT.out), HA12, by rw [← HMM.out]; exact own12, row12, by have := HP.out.snoc ⟨q0, q1, q2, q3, q4, q5, q6, q7, q8, q9⟩; rw [← HN.out.1] at this; exact Lib.hid this, Lib.hid hg10a, b12⟩
        · have HRT := Lib.hid hr
          clear hr
          go_region_held3 (fun w' => Ten e0 q0 q1 q2 q3 q4 q5 q6 q7 q8 q9 w5 w') (first | exact HS0.out | assumption | exact keep_ten (by assumption) (by assumption))
            (first
              | (go_at_call 9; refine (right_any q0 q1 q2 q3 q4 q5 q6 q7 q8 q9 _ false ⟨fun q => (nomatch q), fun q => absurd q HRT.out⟩).mono ?_; rintro e w' ⟨rfl, hbw⟩)
              | (go_at_call 10; refine (lright_any q0 q1 q2 q3 q4 q5 q6 q7 q8 q9 _ false ⟨fun q => (nomatch q), fun q => absurd q HRT.out⟩).mono ?_; rintro e w' ⟨rfl, hbw⟩))
          rename_i hHeld
          have b56 := ten_below hHeld
          have tc6 := ten_tc hHeld
          have o6 := Only.of_below (S := fun _ => False) b56
          have HA6 := HA5.only o6 (fun j q => q.elim)
          have own6 := own_only own5 o6 (fun q => q)
          have row6 := row5.kept o6 (fun q => q)
          have b6 : Below w.heap.size w w' := b5.trans (b56.mono b5.size)
          clear t0 t1 t2 t3 t4 t5 t6 t7 t8 t9 HS0 HA5 own5 row5 b5 o6 hbw b56 hHeld
          have ⟨y0, y1, y2, y3, y4, y5, y6, y7, y8, y9⟩ := tc6
          go_wp2_with fail
          refine (put_no A m cb q0 q1 q2 q3 q4 q5 q6 q7 q8 q9 (evsB R) w' HM.out HA6.lies (by omega) HRT.out).mono ?_
          rintro e w7 ⟨A2, m2, c2, HM2, rfl, hmc2, hcm2, hL2, hbl2, b67⟩
          have o7 := Only.of_below (S := fun _ => False) b67
          have HA7 : Away w7 (fun j => j = g ∨ j = ga) A2 _ := Away.of hL2 (fun ad q h => by
            have h1 := hbl2 ad q
            have h2 := Off.lt' own6
            have h3 := row6.lt
            omega)
          have own7 := own_only own6 o7 (fun q => q)
          have row7 := row6.kept o7 (fun q => q)
          have tc7 := tc_only tc6 o7 (fun q => q)
          have b7 : Below w.heap.size w w7 := b6.trans (b67.mono b6.size)
          clear HA6 own6 row6 tc6 b6 b67 o7 hL2 hbl2 hcm2 y0 y1 y2 y3 y4 y5 y6 y7 y8 y9
          have ⟨y0, y1, y2, y3, y4, y5, y6, y7, y8, y9⟩ := tc7
          go_wp2_with fail
          refine (lright_any q0 q1 q2 q3 q4 q5 q6 q7 q8 q9 w7 false ⟨fun q => (nomatch q), fun q => absurd q HRT.out⟩).mono ?_
          rintro e w8 ⟨rfl, b78⟩
          have o8 := Only.of_below (S := fun _ => False) b78
          have HA8 := HA7.only o8 (fun j q => q.elim)
          have own8 := own_only own7 o8 (fun q => q)
          have row8 := row7.kept o8 (fun q => q)
          have tc8 := tc_only tc7 o8 (fun q => q)
          have b8 : Below w.heap.size w w8 := b7.trans (b78.mono b7.size)
          clear HA7 own7 row7 tc7 b7 b78 o8 y0 y1 y2 y3 y4 y5 y6 y7 y8 y9
          go_wp2_with fail
          go_roundg (gk - 1)
          case measure => have := HIK.out; omega
          case rel => exact ⟨i + 1, n, m2, c2, g, cg, ca, A2, R, ga, T, by go_num, by have := HIK.out; omega, rfl, by rw [HM2.out, HM.out], rfl, hmc2, Lib.hid ⟨HN.out.1, by have := HN.out.2; omega⟩, HM2, HR, HA8, by rw [HM2.out, ← HM.out]; exact own8, row8, HP, HG, b8⟩
      · obtain rfl : i = k := by omega
        have hm31 : m ≤ 1860 := by
          have h1 := evsB_len R HR.out
          have h2 := HM.out
          have h3 := HN.out
          omega
        have HN1 := Lib.hid HN.out.1
        have hn60 : n ≤ 60 := by have := HN.out.2; omega
        clear hik HIK hi HN
        go_wp2_with fail
        refine (all_any A m cb (evsB R) wr HM.out HA.lies (evsB_byte R) (by omega)).mono ?_
        rintro e w5 ⟨l, n2, b, er, c5, A5, G5, T5, rfl, HN2, HALL, its5, HP5, hG5, b5⟩
        obtain ⟨rfl, hb, rfl⟩ := allR_self HR.out (by have := HN1.out; omega) HALL.out
        obtain rfl : m = b := by rw [hb, HM.out]
        obtain rfl : n = n2 := by rw [HN2.out, HN1.out]
        have o5 := Only.of_below (S := fun _ => False) b5
        have HA5 := HA.only o5 (fun j q => q.elim)
        have own5 := own_only own o5 (fun q => q)
        have row5 := row.kept o5 (fun q => q)
        have b6 : Below w.heap.size w w5 := bz.trans (b5.mono bz.size)
        obtain ⟨S, hS⟩ : ∃ S, strOf (evsB l) = S := ⟨_, rfl⟩
        have s1 := run_str (P := Try.prog) (c := cb) 24 9 5 Try.underlying24 Try.underlying5 Try.underlying9 HM.out HA5.lies
        have s2 := run_str (P := Try.prog) (c := cg) 24 9 5 Try.underlying24 Try.underlying5 Try.underlying9 HM.out (lies_own own5)
        rw [hS] at s1 s2
        clear hS HA own row bz b5 o5 hb HALL
        go_wp2_with fail
        clear s1 s2 HA5 own5
        go_loopg [75] n (fun gk vj wz => ∃ j : Nat, vj = .int .i64 (j : Int) ∧ j + gk = n ∧ Its ec 10 27 wz (.slice A5 n c5) G5 n T5 ∧ Row ec 10 27 wz ga n ca T ∧ Below w.heap.size w wz)
        case atStart => exact ⟨0, rfl, by omega, its5, row5, b6⟩
        case round =>
          clear its5 row5 b6
          obtain ⟨j, rfl, hjn, itx, rowy, bz⟩ := hrel
          have HJN := Lib.hid hjn
          by_cases hj : j < n
          · obtain ⟨gx, capx, hGx, hsx, rowx⟩ := itx.some_ (by omega)
            injection hsx with e1 e2 e3
            subst e1 e3
            have hji : (j : Int) < (n : Int) := by omega
            have hcx := rowx.cap_.1
            have hcy := rowy.cap_.1
            obtain ⟨⟨q0, q1, q2, q3, q4, q5, q6, q7, q8, q9⟩, hx⟩ : ∃ x, l[j]? = some x := ⟨_, List.getElem?_eq_getElem (by rw [← HN1.out]; exact hj)⟩
            have hT5 := HP5.out j _ hx
            have hT := HP.out j _ hx
            have x0 : wr.cell? ⟨gx, j * 10, none⟩ = some (.int .i64 q0) := rowx.cell (c := 0) hj (by rw [hT5]; rfl) rfl
            have x1 : wr.cell? ⟨gx, j * 10 + 1, none⟩ = some (.int .i64 q1) := rowx.cell (c := 1) hj (by rw [hT5]; rfl) rfl
            have x2 : wr.cell? ⟨gx, j * 10 + 2, none⟩ = some (.int .i64 q2) := rowx.cell (c := 2) hj (by rw [hT5]; rfl) rfl
            have x3 : wr.cell? ⟨gx, j * 10 + 3, none⟩ = some (.int .i64 q3) := rowx.cell (c := 3) hj (by rw [hT5]; rfl) rfl
            have x4 : wr.cell? ⟨gx, j * 10 + 4, none⟩ = some (.int .i64 q4) := rowx.cell (c := 4) hj (by rw [hT5]; rfl) rfl
            have x5 : wr.cell? ⟨gx, j * 10 + 5, none⟩ = some (.int .i64 q5) := rowx.cell (c := 5) hj (by rw [hT5]; rfl) rfl
            have x6 : wr.cell? ⟨gx, j * 10 + 6, none⟩ = some (.int .i64 q6) := rowx.cell (c := 6) hj (by rw [hT5]; rfl) rfl
            have x7 : wr.cell? ⟨gx, j * 10 + 7, none⟩ = some (.int .i64 q7) := rowx.cell (c := 7) hj (by rw [hT5]; rfl) rfl
            have x8 : wr.cell? ⟨gx, j * 10 + 8, none⟩ = some (.int .i64 q8) := rowx.cell (c := 8) hj (by rw [hT5]; rfl) rfl
            have x9 : wr.cell? ⟨gx, j * 10 + 9, none⟩ = some (.int .i64 q9) := rowx.cell (c := 9) hj (by rw [hT5]; rfl) rfl
            have y0 : wr.cell? ⟨ga, j * 10, none⟩ = some (.int .i64 q0) := rowy.cell (c := 0) hj (by rw [hT]; rfl) rfl
            have y1 : wr.cell? ⟨ga, j * 10 + 1, none⟩ = some (.int .i64 q1) := rowy.cell (c := 1) hj (by rw [hT]; rfl) rfl
            have y2 : wr.cell? ⟨ga, j * 10 + 2, none⟩ = some (.int .i64 q2) := rowy.cell (c := 2) hj (by rw [hT]; rfl) rfl
            have y3 : wr.cell? ⟨ga, j * 10 + 3, none⟩ = some (.int .i64 q3) := rowy.cell (c := 3) hj (by rw [hT]; rfl) rfl
            have y4 : wr.cell? ⟨ga, j * 10 + 4, none⟩ = some (.int .i64 q4) := rowy.cell (c := 4) hj (by rw [hT]; rfl) rfl
            have y5 : wr.cell? ⟨ga, j * 10 + 5, none⟩ = some (.int .i64 q5) := rowy.cell (c := 5) hj (by rw [hT]; rfl) rfl
            have y6 : wr.cell? ⟨ga, j * 10 + 6, none⟩ = some (.int .i64 q6) := rowy.cell (c := 6) hj (by rw [hT]; rfl) rfl
            have y7 : wr.cell? ⟨ga, j * 10 + 7, none⟩ = some (.int .i64 q7) := rowy.cell (c := 7) hj (by rw [hT]; rfl) rfl
            have y8 : wr.cell? ⟨ga, j * 10 + 8, none⟩ = some (.int .i64 q8) := rowy.cell (c := 8) hj (by rw [hT]; rfl) rfl
            have y9 : wr.cell? ⟨ga, j * 10 + 9, none⟩ = some (.int .i64 q9) := rowy.cell (c := 9) hj (by rw [hT]; rfl) rfl
            clear hT hT5 hx hjn
            go_wp2_with fail
            go_quiet (fail)
            have oq : Only wr (wr.drewN nq) (fun _ => False) := (Only.refl wr _).drewN nq
            have itx1 := itx.kept oq (fun _ _ q => q)
            have row1 := rowy.kept oq (fun q => q)
            have b1 : Below w.heap.size w (wr.drewN nq) := below_drewN bz nq
            clear x0 x1 x2 x3 x4 x5 x6 x7 x8 x9 y0 y1 y2 y3 y4 y5 y6 y7 y8 y9
            generalize wr.drewN nq = w9 at row1 itx1 b1 ⊢
            go_wp2_with fail
            go_roundg (n - (j + 1))
            case measure => have := HJN.out; omega
            case rel => exact ⟨j + 1, by go_num, by omega, itx1, row1, b1⟩
          · obtain rfl : j = n := by omega
            go_wp2_with fail
            go_ret
            exact ⟨rfl, bz⟩

end Go.Proofs.Ytkfhgdnlieaedaa.W
