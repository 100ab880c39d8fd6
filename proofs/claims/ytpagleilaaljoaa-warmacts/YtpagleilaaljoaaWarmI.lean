/- The law WarmActs: its walk. -/
import Derived.Test.YtpagleilaaljoaaWarmH
import Derived.Deep.DeepCutAuto
import Derived.Deep.CutBlock
namespace Go.Proofs.Ytpagleilaaljoaa.W.HR
open Go.RowKit
open Go.Proofs.Ytpagleilaaljoaa.R (order_any cmpI cmp_lt cmp_gt cmp_eq U64 Rat)
set_option linter.unusedVariables false

/-- The cache, the page's map and its clock side by side, behind i acts. -/
structure Wa (B : Nat) (L : List Nat) (w : World) (c mb cl n : Nat) (A Am : Int → Option V) (nm : Nat) : Prop where
  cz : Cz B L w c cl n A
  mp : Mp Try.prog 3 w mb (MR Am) nm
  inL : mb ∈ L
theorem Wa.step {B : Nat} {L : List Nat} {w w' : World} {c mb cl n cl' n' nm : Nat} {A Am A' : Int → Option V} (h : Wa B L w c mb cl n A Am nm) (hc : Cz B L w' c cl' n' A') (s : Stp B L w w') : Wa B L w' c mb cl' n' A' Am nm :=
  ⟨hc, h.mp.kept s (fun e => e.2 h.inL), h.inL⟩
theorem Wa.below {B : Nat} {L : List Nat} {w w' : World} {c mb cl n nm : Nat} {A Am : Int → Option V} (h : Wa B L w c mb cl n A Am nm) (hb : Below w.heap.size w w') : Wa B L w' c mb cl n A Am nm :=
  ⟨h.cz.below hb, h.mp.kept (Only.of_below (S := fun _ => False) hb) (fun q => q), h.inL⟩
theorem Wa.box {B : Nat} {L : List Nat} {w : World} {c mb cl n nm : Nat} {A Am : Int → Option V} (h : Wa B L w c mb cl n A Am nm) (o : Obj) : Wa B (w.heap.size :: L) (w.alloc o) c mb cl n A Am nm :=
  ⟨h.cz.alloc o, h.mp.kept (Only.alloc (Only.refl _ (fun _ => False)) o) (fun q => q), List.mem_cons_of_mem _ h.inL⟩
theorem Wa.turned {B : Nat} {L : List Nat} {w w' : World} {c mb cl n nm nm' : Nat} {A Am Am' : Int → Option V} (h : Wa B L w c mb cl n A Am nm) (hg : w.grownBy w' (some mb)) (hm : Mp Try.prog 3 w' mb (MR Am') nm') : Wa B L w' c mb cl n A Am' nm' ∧ Below B w w' := by
  have ho : Only w w' (fun j => j = mb) := Only.grown hg (Or.inl rfl)
  exact ⟨⟨h.cz.wrote ho h.inL, hm, h.inL⟩, ho.below (fun j e => by rw [e]; exact (h.cz.lo mb h.inL).1) h.cz.sz⟩
theorem Wa.less {B : Nat} {L L' : List Nat} {w : World} {c mb cl n nm : Nat} {A Am : Int → Option V} (h : Wa B L w c mb cl n A Am nm) (hs : ∀ q, q ∈ L' → q ∈ L) (hm : mb ∈ L') : Wa B L' w c mb cl n A Am nm := ⟨h.cz.less hs, h.mp, hm⟩

/-- Keys and values stay small. -/
def Sm (i cl : Nat) (A : Int → Option V) : Prop := cl ≤ 1046529 * i ∧ ∀ z v, A z = some v → 0 ≤ z ∧ z < 16 ∧ v.1 / v.2.1 ≤ 1046529 * i
theorem Sm.up {i cl : Nat} {A : Int → Option V} (h : Sm i cl A) : Sm (i + 1) cl A := ⟨by have := h.1; omega, fun z v q => by have := h.2 z v q; exact ⟨this.1, this.2.1, by omega⟩⟩
theorem Sm.del {i cl : Nat} {A : Int → Option V} (h : Sm i cl A) (k : Int) : Sm i cl (updZ A k none) := ⟨h.1, fun z v q => by unfold updZ at q; split at q; cases q; exact h.2 z v q⟩
theorem Sm.evict {i cl : Nat} {A : Int → Option V} (h : Sm i cl A) {k : Int} {v : V} (hv : A k = some v) : Sm i (max cl (v.1 / v.2.1)) (updZ A k none) :=
  ⟨by have := h.1; have := (h.2 k v hv).2.2; omega, (h.del k).2⟩
theorem Sm.set {i cl d o k m : Nat} {A : Int → Option V} (h : Sm i cl A) (hd : d < 16) (ho : o * k ≤ 1046529) (hm : 0 < m) : Sm (i + 1) cl (updZ A (d : Int) (some (cl * m + o * k, m, (d : Int)))) := by
  refine ⟨h.up.1, fun z v q => ?_⟩
  unfold updZ at q; split at q
  · rename_i e
    cases q
    refine ⟨by omega, by omega, ?_⟩
    show (cl * m + o * k) / m ≤ 1046529 * (i + 1)
    rw [Nat.mul_comm cl m, Nat.mul_add_div hm]
    have := h.1
    have : o * k / m ≤ o * k := Nat.div_le_self _ _
    omega
  · exact h.up.2 z v q
theorem field0 (w : World) (a b : Int) : (Instr.field 53 (.agg #[.int .u64 a, .int .u64 b]) 0).run Try.prog w = .ok (.int .u64 a) w := by kernel_rfl
theorem field1 (w : World) (a b : Int) : (Instr.field 53 (.agg #[.int .u64 a, .int .u64 b]) 1).run Try.prog w = .ok (.int .u64 b) w := by kernel_rfl
theorem updZ_gone' {α : Type} (A : Int → Option α) (k : Int) (h : A k = none) : updZ A k none = A := by
  funext j; unfold updZ; split
  · rename_i e; rw [e, h]
  · rfl
theorem Best.none {A : Int → Option V} {best : Int} (h : Best A (fun _ => false) best) (hA : ∀ z, A z = none) : best = -1 := by
  rcases h with ⟨h, _⟩ | ⟨v, h, _⟩
  · exact h
  · rw [hA] at h; cases h
theorem Best.some {A : Int → Option V} {best z : Int} {v : V} (h : Best A (fun _ => false) best) (hz : A z = some v) : ∃ u, A best = some u ∧ 0 ≤ best ∧ ∀ z v', A z = some v' → lt v' u = false := by
  rcases h with ⟨_, h⟩ | ⟨u, h1, h2, h3⟩
  · have := h z v hz; cases this
  · exact ⟨u, h1, h2, fun z v' q => h3 z v' q rfl⟩
theorem same_best {P : Nat → Prop} {w : World} {c cl n : Nat} {A : Int → Option V} (h : Cq P w c cl n A) {a b : Int} {u v : V} (ha : A a = some u) (hb : A b = some v) (h1 : ∀ z v', A z = some v' → lt v' u = false) (h2 : ∀ z v', A z = some v' → lt v' v = false) : b = a ∧ v = u := by
  have e1 := lt_same (h1 b v hb) (h2 a u ha)
  have e2 := (h.ids ha).1
  have e3 := (h.ids hb).1
  have e : b = a := by rw [← e3, ← e2, e1]
  subst e
  rw [ha] at hb; cases hb; exact ⟨rfl, rfl⟩
theorem Wa.ids {B : Nat} {L : List Nat} {w : World} {c mb cl n nm i : Nat} {A Am : Int → Option V} (h : Wa B L w c mb cl n A Am nm) (hs : Sm i cl A) : ∀ z v, A z = some v → v.2.2 = z ∧ ok v ∧ 0 ≤ z ∧ z < 16 :=
  fun z v q => ⟨(h.cz.cq.ids q).1, (h.cz.cq.ids q).2.1, (hs.2 z v q).1, (hs.2 z v q).2.1⟩
theorem MR_at {A : Int → Option V} {z : Int} {p q : Nat} {d : Int} (h : A z = some (p, q, d)) : MR A z = some (.agg #[.int .u64 (p : Int), .int .u64 (q : Int)]) := by show (A z).map _ = _; rw [h]; rfl
theorem MR_no {A : Int → Option V} {z : Int} (h : A z = none) : MR A z = none := by show (A z).map _ = _; rw [h]; rfl

set_option maxRecDepth 100000 in
set_option maxHeartbeats 6400000 in
theorem acts_walk (a0 : Option Addr) (k0 cap : Nat) (Z : Nat → Int) (_hc : k0 ≤ cap) (w : World) (L : Lies w w.heap.size a0 (zs Z (k0 * 5))) :
    Calls Try.prog 7 #[.slice a0 k0 cap] w fun e w' => e = .returned (.bool true) ∧ Below w.heap.size w w' := by
  by_cases hk : 100 < k0
  · have hki : decide ((100 : Int) < (k0 : Int)) = true := by simp; omega
    go_enter Try.func7, Try.ntmps7
    go_wp2_with fail
    refine (head9 _).mono ?_
    rintro e w1 ⟨rfl, b1⟩
    go_wp2_with fail
    go_ret
    exact ⟨rfl, b1⟩
  · have hki : decide ((100 : Int) < (k0 : Int)) = false := by simp; omega
    have hmm := @run_makeMap Try.prog
    go_enter Try.func7, Try.ntmps7
    go_wp2_with fail
    refine (head9 _).mono ?_
    rintro e w1 ⟨rfl, b1⟩
    go_wp2_with fail
    refine (z_new (B := w.heap.size) w1 b1.size).mono ?_
    rintro e w2 ⟨rfl, h2, b2⟩
    obtain ⟨c, hc⟩ : ∃ c, w1.heap.size = c := ⟨_, rfl⟩
    have bb2 := b1.trans (b2.mono b1.size)
    rw [hc] at h2 ⊢
    clear hc b1 b2
    have hb3 : Below w2.heap.size w2 (w2.alloc (.map #[] 0)) := (Below.refl _ _).alloc (Nat.le_refl _) _
    have bb3 := bb2.trans (hb3.mono bb2.size)
    have h3 : Wa w.heap.size [w2.heap.size] (w2.alloc (.map #[] 0)) c w2.heap.size 0 0 (fun _ => none) (fun _ => none) 0 := ⟨h2.alloc _, Mp.made _ _ _, by simp⟩
    obtain ⟨mb, hmb⟩ : ∃ mb, w2.heap.size = mb := ⟨_, rfl⟩
    rw [hmb] at h3
    clear hb3
    go_wp2_with fail
    clear hmb hki hmm
    generalize w2.alloc (.map #[] 0) = w3 at h3 bb3 ⊢
    go_loopg [5, 35] k0 (fun gk vc vi wr => ∃ (i n cl : Nat) (A : Int → Option V), vi = .int .i64 (i : Int) ∧ vc = .int .u64 (cl : Int) ∧ i + gk = k0 ∧ Wa w.heap.size [mb] wr c mb cl n A A n ∧ n ≤ i ∧ Hid (Sm i cl A) ∧ Below w.heap.size w wr)
    case atStart => exact ⟨0, 0, 0, _, rfl, rfl, by omega, h3, by omega, Lib.hid ⟨by omega, fun z v q => by cases q⟩, bb3⟩
    case round =>
      clear h3 bb3 h2 bb2
      obtain ⟨i, n, cl, A, rfl, rfl, hik, hz, hni, HS, bz⟩ := hrel
      have HIK := Lib.hid hik
      by_cases hi : i < k0
      · obtain ⟨ad, ha, hab, hcell⟩ := (L.below bz (Nat.le_refl _)).num (j := i * 5) (by omega)
        have hii : (i : Int) < (k0 : Int) := by omega
        have x0 := hcell (i * 5) (by omega)
        have x1 := cell_in (c := 0) (hcell (i * 5 + 1) (by omega))
        have x2 := cell_in (c := 1) (hcell (i * 5 + 2) (by omega))
        have x3 := cell_in (c := 2) (hcell (i * 5 + 3) (by omega))
        have x4 := cell_in (c := 3) (hcell (i * 5 + 4) (by omega))
        rw [Nat.zero_add] at x1
        rw [show (1 : Nat) + 1 = 2 from rfl] at x2
        rw [show (2 : Nat) + 1 = 3 from rfl] at x3
        rw [show (3 : Nat) + 1 = 4 from rfl] at x4
        obtain ⟨z0, hz0⟩ : ∃ z, Z (i * 5) = z := ⟨_, rfl⟩
        obtain ⟨z1, hz1⟩ : ∃ z, Z (i * 5 + 1) = z := ⟨_, rfl⟩
        obtain ⟨z2, hz2⟩ : ∃ z, Z (i * 5 + 2) = z := ⟨_, rfl⟩
        obtain ⟨z3, hz3⟩ : ∃ z, Z (i * 5 + 3) = z := ⟨_, rfl⟩
        obtain ⟨z4, hz4⟩ : ∃ z, Z (i * 5 + 4) = z := ⟨_, rfl⟩
        rw [hz0] at x0
        rw [hz1] at x1
        rw [hz2] at x2
        rw [hz3] at x3
        rw [hz4] at x4
        subst ha
        clear hcell hik hz0 hz1 hz2 hz3 hz4
        obtain ⟨d, hd, hd1⟩ := and_nat z1 15 4 16 (by decide) (by decide) (by decide)
        obtain ⟨kd, hkd, hkd8⟩ := and_nat z0 7 3 8 (by decide) (by decide) (by decide)
        have hdw : (KL (d : Int)).wf = true := Go.WalkArith.wf_i64 ⟨by omega, by omega⟩
        have hx := hz.box (.cells #[.int .i64 z0, .int .i64 z1, .int .i64 z2, .int .i64 z3, .int .i64 z4] 51)
        have hbx : Below wr.heap.size wr (wr.alloc (.cells #[.int .i64 z0, .int .i64 z1, .int .i64 z2, .int .i64 z3, .int .i64 z4] 51)) := (Below.refl _ _).alloc (Nat.le_refl _) _
        have bx := bz.trans (hbx.mono bz.size)
        have HBX := Lib.hid (heap_alloc_new wr (.cells #[.int .i64 z0, .int .i64 z1, .int .i64 z2, .int .i64 z3, .int .i64 z4] 51))
        clear hbx
        go_upto_block 2 with (fail)
        clear x0 x1 x2 x3 x4 hkd hd hz bz
        obtain ⟨qb, hqb⟩ : ∃ q, wr.heap.size = q := ⟨_, rfl⟩
        rw [hqb] at hx HBX
        rw [hqb]
        clear hqb
        generalize wr.alloc (.cells #[.int .i64 z0, .int .i64 z1, .int .i64 z2, .int .i64 z3, .int .i64 z4] 51) = w4 at hx bx HBX ⊢
        have hsub : ∀ q, q ∈ [mb] → q ∈ [qb, mb] := by simp
        have hmb1 : mb ∈ [mb] := by simp
        go_cut [5] (fun vc wc => ∃ (n' cl' : Nat) (A' : Int → Option V), vc = .int .u64 (cl' : Int) ∧ Wa w.heap.size [mb] wc c mb cl' n' A' A' n' ∧ n' ≤ i + 1 ∧ Hid (Sm (i + 1) cl' A') ∧ Below w.heap.size w wc)
        case first =>
          have hkk : kd = 3 ∨ (kd = 4 ∨ kd = 5) ∨ (kd ≠ 3 ∧ kd ≠ 4 ∧ kd ≠ 5) := by omega
          rcases hkk with rfl | hkk | hkk
          · -- drop
            cases hA : A (d : Int) with
            | none =>
              have HA := Lib.hid hA
              clear hA
              have hb5 : Below w4.heap.size w4 (w4.alloc (.cells #[.int .u64 0, .int .u64 0] 53)) := (Below.refl _ _).alloc (Nat.le_refl _) _
              have hx5 := hx.below hb5
              have bx5 := bx.trans (hb5.mono bx.size)
              clear hb5
              go_wp2_with (at_lookup; refine wpList_mp_none rfl (.tmp 82) (.tmp 83) 48 rfl 3 53 Try.underlying3 Try.underlying48 (zeroR _) mb _ n rfl hx.mp (d : Int) rfl hdw (MR_no HA.out) ?_)
              refine (z_drop0 _ c cl n A (d : Int) hx5.cz hdw HA.out).mono ?_
              rintro e w6 ⟨rfl, h6, s6⟩
              have hx6 := hx5.step h6 s6
              have bx6 := bx5.trans (s6.bel hx5.cz.sz)
              go_wp2_with (at_delete; refine wpList_mp_del rfl (.tmp 92) (.tmp 93) 48 3 rfl 53 Try.underlying3 Try.underlying48 mb _ n rfl hx6.mp (d : Int) rfl hdw n (by rw [MR_no HA.out]; rfl) ?_; intro w7 hm7 hg7)
              rw [← MR_del, updZ_gone' A _ HA.out] at hm7
              obtain ⟨hx7, bx7⟩ := hx6.turned hg7 hm7
              go_meet
              exact ⟨n, cl, A, rfl, hx7.less hsub hmb1, by omega, Lib.hid HS.out.up, bx6.trans bx7⟩
            | some v =>
              obtain ⟨p, q, dd⟩ := v
              have HA := Lib.hid hA
              obtain ⟨n1, hn1⟩ : ∃ n1, n = n1 + 1 := ⟨n - 1, by have := (hx.cz.cq.ids hA).2.2.2; omega⟩
              have HN1 := Lib.hid hn1
              clear hA hn1
              have hb5 : Below w4.heap.size w4 (w4.alloc (.cells #[.int .u64 (p : Int), .int .u64 (q : Int)] 53)) := (Below.refl _ _).alloc (Nat.le_refl _) _
              have hx5 := hx.below hb5
              have bx5 := bx.trans (hb5.mono bx.size)
              clear hb5
              go_wp2_with (at_lookup; refine wpList_mp_some rfl (.tmp 82) (.tmp 83) 48 rfl 3 53 Try.underlying3 Try.underlying48 (zeroR _) mb _ n rfl hx.mp (d : Int) rfl hdw (.agg #[.int .u64 (p : Int), .int .u64 (q : Int)]) (MR_at HA.out) ?_)
              refine (z_drop _ c cl n A (d : Int) _ hx5.cz HA.out (by omega) n1 HN1.out).mono ?_
              rintro e w6 ⟨rfl, h6, s6⟩
              have hx6 := hx5.step h6 s6
              have bx6 := bx5.trans (s6.bel hx5.cz.sz)
              go_wp2_with (at_delete; refine wpList_mp_del rfl (.tmp 92) (.tmp 93) 48 3 rfl 53 Try.underlying3 Try.underlying48 mb _ n rfl hx6.mp (d : Int) rfl hdw n1 (by rw [MR_at HA.out, HN1.out]; rfl) ?_; intro w7 hm7 hg7)
              rw [← MR_del] at hm7
              obtain ⟨hx7, bx7⟩ := hx6.turned hg7 hm7
              go_meet
              exact ⟨n1, cl, _, rfl, hx7.less hsub hmb1, by have := HN1.out; omega, Lib.hid (HS.out.del _).up, bx6.trans bx7⟩
          · -- evict
            rcases hkk with rfl | rfl
            · rcases Nat.eq_zero_or_pos n with hn0 | hn0
              · subst hn0
                have hnone := hx.cz.cq.zero
                have HNO := Lib.hid hnone
                clear hnone
                go_wp2_with fail
                refine (least_any w4 mb 0 A hx.mp (hx.ids HS.out)).mono ?_
                rintro e w5 ⟨best, rfl, hbest, b5⟩
                have hb := hbest.none HNO.out
                subst hb
                have hx5 := hx.below b5
                have bx5 := bx.trans (b5.mono bx.size)
                go_wp2_with fail
                refine (z_evict0 w5 c cl A hx5.cz).mono ?_
                rintro e w6 ⟨rfl, h6, s6⟩
                have hx6 := hx5.step h6 s6
                have bx6 := bx5.trans (s6.bel hx5.cz.sz)
                go_wp2_with (at_builtin; refine wpList_unguard (by rfl) ?_; refine wpList_max_to rfl (.tmp 110) (.const (.int .i64 0)) 3 3 rfl .i64 .i64 (-1) 0 0 rfl rfl (by decide) ?_)
                go_meet
                exact ⟨0, cl, A, rfl, hx6.less hsub hmb1, by omega, Lib.hid HS.out.up, bx6⟩
              · obtain ⟨n1, hn1⟩ : ∃ n1, n = n1 + 1 := ⟨n - 1, by omega⟩
                have HN1 := Lib.hid hn1
                clear hn1
                go_wp2_with fail
                refine (least_any w4 mb n A hx.mp (hx.ids HS.out)).mono ?_
                rintro e w5 ⟨best, rfl, hbest, b5⟩
                have hx5 := hx.below b5
                have bx5 := bx.trans (b5.mono bx.size)
                go_wp2_with fail
                refine (z_evict w5 c cl n A hx5.cz n1 HN1.out (by omega)).mono ?_
                rintro e w6 ⟨id, v, rfl, hA, hmin, h6, s6⟩
                obtain ⟨u, hu1, hu2, hu3⟩ := hbest.some hA
                obtain ⟨rfl, rfl⟩ := same_best hx5.cz.cq hA hu1 hmin hu3
                obtain ⟨p, q, dd⟩ := u
                obtain ⟨_, ⟨hp64, hq0, hq64, _⟩, hbw, _⟩ := hx5.cz.cq.ids hA
                have hx6 := hx5.step h6 s6
                have bx6 := bx5.trans (s6.bel hx5.cz.sz)
                obtain ⟨f, hf⟩ : ∃ f, f = p / q := ⟨_, rfl⟩
                obtain ⟨qI, hqI⟩ : ∃ x : Int, x = (q : Int) := ⟨_, rfl⟩
                have hM : MR A best = some (.agg #[.int .u64 (p : Int), .int .u64 qI]) := by rw [hqI]; exact MR_at hA
                have HM := Lib.hid hM
                have hq0n : 0 < q := hq0
                have hfd0 := field0
                have hfd1 := field1
                have hqne : ¬ qI = 0 := by omega
                have hquo2 : Int.tdiv (p : Int) qI = (f : Int) := by rw [Int.tdiv_eq_ediv_of_nonneg (by omega), hf, hqI]; exact (Int.natCast_ediv p q).symm
                have hwr : IntKind.u64.wrap (f : Int) = (f : Int) := by
                  have : f ≤ p := by rw [hf]; exact Nat.div_le_self p q
                  rw [IntKind.wrap_u64]; omega
                have hsm := HS.out.evict hA
                have hx6' : Wa w.heap.size [qb, mb] w6 c mb (max cl f) n1 (updZ A best none) A n := by rw [hf]; exact hx6
                have hsm' : Sm i (max cl f) (updZ A best none) := by rw [hf]; exact hsm
                have HA := Lib.hid hA
                have HSM := Lib.hid hsm'
                have hge : decide ((0 : Int) ≤ best) = true := by simp; omega
                have hmx : best = max best 0 := by omega
                have HMX := Lib.hid hmx
                clear hM hA hf hqI hmin hu1 hu3 hsm hsm' h6 hx6 hmx hbest hx5
                by_cases hgt : cl < f
                · have hgd : decide ((cl : Int) < (f : Int)) = true := by simp; omega
                  have hmc : max cl f = f := by omega
                  rw [hmc] at hx6' HSM
                  clear hmc
                  go_wp2_with (first
                    | (at_builtin; refine wpList_unguard (by rfl) ?_; refine wpList_max_to rfl (.tmp 110) (.const (.int .i64 0)) 3 3 rfl .i64 .i64 best 0 best rfl rfl HMX.out ?_)
                    | (at_lookup; refine wpList_mp_at rfl (.tmp 115) (.tmp 116) 48 rfl 3 53 Try.underlying3 Try.underlying48 (zeroR _) mb _ n rfl hx6'.mp best rfl hbw (some (.agg #[.int .u64 (p : Int), .int .u64 qI])) HM.out ?_)
                    | (at_lookup; refine wpList_mp_at rfl (.tmp 119) (.tmp 120) 48 rfl 3 53 Try.underlying3 Try.underlying48 (zeroR _) mb _ n rfl hx6'.mp best rfl hbw (some (.agg #[.int .u64 (p : Int), .int .u64 qI])) HM.out ?_)
                    | (at_delete; refine wpList_mp_del rfl (.tmp 128) (.tmp 129) 48 3 rfl 53 Try.underlying3 Try.underlying48 mb _ n rfl hx6'.mp best rfl hbw n1 (by rw [HM.out, HN1.out]; rfl) ?_; intro w7 hm7 hg7))
                  rw [← MR_del] at hm7
                  obtain ⟨hx7, bx7⟩ := hx6'.turned hg7 hm7
                  go_meet
                  exact ⟨n1, f, _, rfl, hx7.less hsub hmb1, by have := HN1.out; omega, Lib.hid HSM.out.up, bx6.trans bx7⟩
                · have hgd : decide ((cl : Int) < (f : Int)) = false := by simp; omega
                  have hmc : max cl f = cl := by omega
                  rw [hmc] at hx6' HSM
                  clear hmc
                  go_wp2_with (first
                    | (at_builtin; refine wpList_unguard (by rfl) ?_; refine wpList_max_to rfl (.tmp 110) (.const (.int .i64 0)) 3 3 rfl .i64 .i64 best 0 best rfl rfl HMX.out ?_)
                    | (at_lookup; refine wpList_mp_at rfl (.tmp 115) (.tmp 116) 48 rfl 3 53 Try.underlying3 Try.underlying48 (zeroR _) mb _ n rfl hx6'.mp best rfl hbw (some (.agg #[.int .u64 (p : Int), .int .u64 qI])) HM.out ?_)
                    | (at_lookup; refine wpList_mp_at rfl (.tmp 119) (.tmp 120) 48 rfl 3 53 Try.underlying3 Try.underlying48 (zeroR _) mb _ n rfl hx6'.mp best rfl hbw (some (.agg #[.int .u64 (p : Int), .int .u64 qI])) HM.out ?_)
                    | (at_delete; refine wpList_mp_del rfl (.tmp 128) (.tmp 129) 48 3 rfl 53 Try.underlying3 Try.underlying48 mb _ n rfl hx6'.mp best rfl hbw n1 (by rw [HM.out, HN1.out]; rfl) ?_; intro w7 hm7 hg7))
                  rw [← MR_del] at hm7
                  obtain ⟨hx7, bx7⟩ := hx6'.turned hg7 hm7
                  go_meet
                  exact ⟨n1, cl, _, rfl, hx7.less hsub hmb1, by have := HN1.out; omega, Lib.hid HSM.out.up, bx6.trans bx7⟩
            · rcases Nat.eq_zero_or_pos n with hn0 | hn0
              · subst hn0
                have hnone := hx.cz.cq.zero
                have HNO := Lib.hid hnone
                clear hnone
                go_wp2_with fail
                refine (least_any w4 mb 0 A hx.mp (hx.ids HS.out)).mono ?_
                rintro e w5 ⟨best, rfl, hbest, b5⟩
                have hb := hbest.none HNO.out
                subst hb
                have hx5 := hx.below b5
                have bx5 := bx.trans (b5.mono bx.size)
                go_wp2_with fail
                refine (z_evict0 w5 c cl A hx5.cz).mono ?_
                rintro e w6 ⟨rfl, h6, s6⟩
                have hx6 := hx5.step h6 s6
                have bx6 := bx5.trans (s6.bel hx5.cz.sz)
                go_wp2_with (at_builtin; refine wpList_unguard (by rfl) ?_; refine wpList_max_to rfl (.tmp 110) (.const (.int .i64 0)) 3 3 rfl .i64 .i64 (-1) 0 0 rfl rfl (by decide) ?_)
                go_meet
                exact ⟨0, cl, A, rfl, hx6.less hsub hmb1, by omega, Lib.hid HS.out.up, bx6⟩
              · obtain ⟨n1, hn1⟩ : ∃ n1, n = n1 + 1 := ⟨n - 1, by omega⟩
                have HN1 := Lib.hid hn1
                clear hn1
                go_wp2_with fail
                refine (least_any w4 mb n A hx.mp (hx.ids HS.out)).mono ?_
                rintro e w5 ⟨best, rfl, hbest, b5⟩
                have hx5 := hx.below b5
                have bx5 := bx.trans (b5.mono bx.size)
                go_wp2_with fail
                refine (z_evict w5 c cl n A hx5.cz n1 HN1.out (by omega)).mono ?_
                rintro e w6 ⟨id, v, rfl, hA, hmin, h6, s6⟩
                obtain ⟨u, hu1, hu2, hu3⟩ := hbest.some hA
                obtain ⟨rfl, rfl⟩ := same_best hx5.cz.cq hA hu1 hmin hu3
                obtain ⟨p, q, dd⟩ := u
                obtain ⟨_, ⟨hp64, hq0, hq64, _⟩, hbw, _⟩ := hx5.cz.cq.ids hA
                have hx6 := hx5.step h6 s6
                have bx6 := bx5.trans (s6.bel hx5.cz.sz)
                obtain ⟨f, hf⟩ : ∃ f, f = p / q := ⟨_, rfl⟩
                obtain ⟨qI, hqI⟩ : ∃ x : Int, x = (q : Int) := ⟨_, rfl⟩
                have hM : MR A best = some (.agg #[.int .u64 (p : Int), .int .u64 qI]) := by rw [hqI]; exact MR_at hA
                have HM := Lib.hid hM
                have hq0n : 0 < q := hq0
                have hfd0 := field0
                have hfd1 := field1
                have hqne : ¬ qI = 0 := by omega
                have hquo2 : Int.tdiv (p : Int) qI = (f : Int) := by rw [Int.tdiv_eq_ediv_of_nonneg (by omega), hf, hqI]; exact (Int.natCast_ediv p q).symm
                have hwr : IntKind.u64.wrap (f : Int) = (f : Int) := by
                  have : f ≤ p := by rw [hf]; exact Nat.div_le_self p q
                  rw [IntKind.wrap_u64]; omega
                have hsm := HS.out.evict hA
                have hx6' : Wa w.heap.size [qb, mb] w6 c mb (max cl f) n1 (updZ A best none) A n := by rw [hf]; exact hx6
                have hsm' : Sm i (max cl f) (updZ A best none) := by rw [hf]; exact hsm
                have HA := Lib.hid hA
                have HSM := Lib.hid hsm'
                have hge : decide ((0 : Int) ≤ best) = true := by simp; omega
                have hmx : best = max best 0 := by omega
                have HMX := Lib.hid hmx
                clear hM hA hf hqI hmin hu1 hu3 hsm hsm' h6 hx6 hmx hbest hx5
                by_cases hgt : cl < f
                · have hgd : decide ((cl : Int) < (f : Int)) = true := by simp; omega
                  have hmc : max cl f = f := by omega
                  rw [hmc] at hx6' HSM
                  clear hmc
                  go_wp2_with (first
                    | (at_builtin; refine wpList_unguard (by rfl) ?_; refine wpList_max_to rfl (.tmp 110) (.const (.int .i64 0)) 3 3 rfl .i64 .i64 best 0 best rfl rfl HMX.out ?_)
                    | (at_lookup; refine wpList_mp_at rfl (.tmp 115) (.tmp 116) 48 rfl 3 53 Try.underlying3 Try.underlying48 (zeroR _) mb _ n rfl hx6'.mp best rfl hbw (some (.agg #[.int .u64 (p : Int), .int .u64 qI])) HM.out ?_)
                    | (at_lookup; refine wpList_mp_at rfl (.tmp 119) (.tmp 120) 48 rfl 3 53 Try.underlying3 Try.underlying48 (zeroR _) mb _ n rfl hx6'.mp best rfl hbw (some (.agg #[.int .u64 (p : Int), .int .u64 qI])) HM.out ?_)
                    | (at_delete; refine wpList_mp_del rfl (.tmp 128) (.tmp 129) 48 3 rfl 53 Try.underlying3 Try.underlying48 mb _ n rfl hx6'.mp best rfl hbw n1 (by rw [HM.out, HN1.out]; rfl) ?_; intro w7 hm7 hg7))
                  rw [← MR_del] at hm7
                  obtain ⟨hx7, bx7⟩ := hx6'.turned hg7 hm7
                  go_meet
                  exact ⟨n1, f, _, rfl, hx7.less hsub hmb1, by have := HN1.out; omega, Lib.hid HSM.out.up, bx6.trans bx7⟩
                · have hgd : decide ((cl : Int) < (f : Int)) = false := by simp; omega
                  have hmc : max cl f = cl := by omega
                  rw [hmc] at hx6' HSM
                  clear hmc
                  go_wp2_with (first
                    | (at_builtin; refine wpList_unguard (by rfl) ?_; refine wpList_max_to rfl (.tmp 110) (.const (.int .i64 0)) 3 3 rfl .i64 .i64 best 0 best rfl rfl HMX.out ?_)
                    | (at_lookup; refine wpList_mp_at rfl (.tmp 115) (.tmp 116) 48 rfl 3 53 Try.underlying3 Try.underlying48 (zeroR _) mb _ n rfl hx6'.mp best rfl hbw (some (.agg #[.int .u64 (p : Int), .int .u64 qI])) HM.out ?_)
                    | (at_lookup; refine wpList_mp_at rfl (.tmp 119) (.tmp 120) 48 rfl 3 53 Try.underlying3 Try.underlying48 (zeroR _) mb _ n rfl hx6'.mp best rfl hbw (some (.agg #[.int .u64 (p : Int), .int .u64 qI])) HM.out ?_)
                    | (at_delete; refine wpList_mp_del rfl (.tmp 128) (.tmp 129) 48 3 rfl 53 Try.underlying3 Try.underlying48 mb _ n rfl hx6'.mp best rfl hbw n1 (by rw [HM.out, HN1.out]; rfl) ?_; intro w7 hm7 hg7))
                  rw [← MR_del] at hm7
                  obtain ⟨hx7, bx7⟩ := hx6'.turned hg7 hm7
                  go_meet
                  exact ⟨n1, cl, _, rfl, hx7.less hsub hmb1, by have := HN1.out; omega, Lib.hid HSM.out.up, bx6.trans bx7⟩
          · -- set
            obtain ⟨hk3, hk4, hk5⟩ := hkk
            have g3 : ((kd : Int) == 3) = false := by simp; omega
            have g4 : ((kd : Int) == 4) = false := by simp; omega
            have g5 : ((kd : Int) == 5) = false := by simp; omega
            obtain ⟨m, hm, hm1⟩ := and_nat z4 4095 12 4096 (by decide) (by decide) (by decide)
            obtain ⟨o, ho, ho1⟩ := and_nat z2 1023 10 1024 (by decide) (by decide) (by decide)
            obtain ⟨k, hkx, hk1⟩ := and_nat z3 1023 10 1024 (by decide) (by decide) (by decide)
            have hoI : (o : Int) < 1024 := by omega
            have hkI : (k : Int) < 1024 := by omega
            have hmI : (m : Int) < 4096 := by omega
            have hokle : o * k ≤ 1023 * 1023 := Nat.mul_le_mul (by omega) (by omega)
            have hclb := HS.out.1
            have hcm : cl * m ≤ 104652900 * 4095 := Nat.mul_le_mul (by omega) (by omega)
            obtain ⟨y, hy⟩ : ∃ y, y = o * k := ⟨_, rfl⟩
            obtain ⟨cm, hcmx⟩ : ∃ cm, cm = cl * m := ⟨_, rfl⟩
            obtain ⟨u, hu⟩ : ∃ u, u = cl * m + o * k := ⟨_, rfl⟩
            have hmul := mul_u64 hy (by omega)
            have hmul2 := mul_u64 hcmx (by omega)
            have hadd : IntKind.u64.wrap ((cm : Int) + (y : Int)) = (u : Int) := by rw [IntKind.wrap_u64]; omega
            have HU := Lib.hid hu
            have HOK := Lib.hid hokle
            have HCM := Lib.hid hcm
            have hcl64 : cl < 18446744073709551616 := by omega
            have hu64 : u < 18446744073709551616 := by omega
            clear hu hokle hcm hy hcmx hclb
            have y2 := cell_of_row _ _ 2 _ _ _ HBX.out
            have y3 := cell_of_row _ _ 3 _ _ _ HBX.out
            have y4 := cell_of_row _ _ 4 _ _ _ HBX.out
            rcases Nat.eq_zero_or_pos m with hm0 | hm0
            · subst hm0
              go_wp2_with fail
              refine (w_set0 w4 c cl n A (d : Int) o k hx.cz.cq hcl64 (by have := HOK.out; omega)).mono ?_
              rintro e w5 ⟨rfl, b5⟩
              have hx5 := hx.below b5
              have bx5 := bx.trans (b5.mono bx.size)
              go_wp2_with fail
              go_meet
              exact ⟨n, cl, A, rfl, hx5.less hsub hmb1, by omega, Lib.hid HS.out.up, bx5⟩
            · have hm0I : (0 : Int) < (m : Int) := by omega
              obtain ⟨n1, hn1⟩ : ∃ n1, n1 = if (A (d : Int)).isSome then n else n + 1 := ⟨_, rfl⟩
              have hn1' : n1 ≤ n + 1 := by rw [hn1]; split <;> omega
              have HN1 := Lib.hid hn1
              have hml : n < maxLen := by have : (1073741824 : Nat) < maxLen := by decide
                                          omega
              clear hn1
              go_wp2_with fail
              refine (z_set w4 c cl n A (d : Int) o k m u hx.cz hdw hcl64 (by have := HOK.out; omega) hm0 (by omega) HU.out hu64 (by omega) n1 HN1.out).mono ?_
              rintro e w5 ⟨rfl, h5, s5⟩
              have hx5 := hx.step h5 s5
              have bx5 := bx.trans (s5.bel hx.cz.sz)
              go_wp2_with (at_mapUpdate; refine wpList_mp_set rfl (.tmp 68) (.tmp 69) (.tmp 78) 48 rfl 3 53 Try.underlying3 Try.underlying48 mb _ n rfl hx5.mp hml (d : Int) rfl hdw (.agg #[.int .u64 (u : Int), .int .u64 (m : Int)]) rfl n1 (by rw [HN1.out]; show _ = if ((A (d : Int)).map _).isSome = true then _ else _; rw [Option.isSome_map]) ?_; intro w7 hm7 hg7)
              rw [← MR_set A (d : Int) (u, m, (d : Int))] at hm7
              obtain ⟨hx7, bx7⟩ := hx5.turned hg7 hm7
              go_meet
              refine ⟨n1, cl, _, rfl, hx7.less hsub hmb1, by omega, Lib.hid ?_, bx5.trans bx7⟩
              rw [HU.out]
              exact HS.out.set hd1 (by have := HOK.out; omega) hm0
        case rest =>
          clear hx bx HBX hni HS hkd8 hsub
          obtain ⟨n1, cl1, A1, rfl, h1, hn1, HS1, b1⟩ := hcut
          rcases Nat.eq_zero_or_pos n1 with hz | hz
          · subst hz
            have hnone := h1.cz.cq.zero
            have HNO := Lib.hid hnone
            clear hnone
            go_wp2_with fail
            refine (least_any _ mb 0 A1 h1.mp (h1.ids HS1.out)).mono ?_
            rintro e w5 ⟨best, rfl, hbest, b5⟩
            have hb := hbest.none HNO.out
            subst hb
            have hx5 := h1.below b5
            have b5' := b1.trans (b5.mono b1.size)
            clear h1 b1 b5 hbest
            go_wp2_with fail
            refine (z_least0 w5 c cl1 A1 hx5.cz).mono ?_
            rintro e w6 ⟨rfl, h6, s6⟩
            have hx6 := hx5.step h6 s6
            have b6 := b5'.trans (s6.bel hx5.cz.sz)
            go_wp2_with (at_builtin; refine wpList_unguard (by rfl) ?_; refine wpList_max_to rfl (.tmp 143) (.const (.int .i64 0)) 3 3 rfl .i64 .i64 (-1) 0 0 rfl rfl (by decide) ?_)
            refine (z_len w6 c cl1 0 A1 hx6.cz).mono ?_
            rintro e w7 ⟨rfl, h7, s7⟩
            have hx7 := hx6.step h7 s7
            have b7 := b6.trans (s7.bel hx6.cz.sz)
            go_wp2_with (at_len; refine wpList_unguard (by rfl) ?_; refine wpList_mp_len rfl (.tmp 150) 48 rfl 3 53 Try.underlying48 mb _ 0 rfl hx7.mp ?_)
            refine (w_clock w7 c cl1 0 A1 hx7.cz.cq).mono ?_
            rintro e w8 ⟨rfl, rfl⟩
            have h9 := hx7
            have b9 := b7
            clear hx5 hx6 h6 h7 b6 b7 hx7 s6 s7 b5'
            go_wp2_with fail
            go_loopg [21] 16 (fun gk vi wr => ∃ j : Nat, vi = .int .i64 (j : Int) ∧ j + gk = 16 ∧ Wa w.heap.size [mb] wr c mb cl1 0 A1 A1 0 ∧ Below w.heap.size w wr)
            case atStart => exact ⟨0, rfl, rfl, h9, b9⟩
            case round =>
              clear h9 b9
              obtain ⟨j, rfl, hjk, h9, b9⟩ := hrel
              have HJK := Lib.hid hjk
              by_cases hj : j < 16
              · have hji : (j : Int) < 16 := by omega
                have hjw : (KL (j : Int)).wf = true := Go.WalkArith.wf_i64 ⟨by omega, by omega⟩
                clear hjk
                cases hA : A1 (j : Int) with
                | none =>
                  have HA := Lib.hid hA
                  clear hA
                  go_wp2_with fail
                  refine (z_worth0 wr c cl1 0 A1 h9.cz (j : Int) hjw HA.out (by omega)).mono ?_
                  rintro e w10 ⟨rfl, h10, s10⟩
                  have hx10 := h9.step h10 s10
                  have b10 := b9.trans (s10.bel h9.cz.sz)
                  have hb11 : Below w10.heap.size w10 (w10.alloc (.cells #[.int .u64 0, .int .u64 0] 53)) := (Below.refl _ _).alloc (Nat.le_refl _) _
                  have hx11 := hx10.below hb11
                  have b11 := b10.trans (hb11.mono b10.size)
                  have hb12 : Below (w10.alloc (.cells #[.int .u64 0, .int .u64 0] 53)).heap.size (w10.alloc (.cells #[.int .u64 0, .int .u64 0] 53)) ((w10.alloc (.cells #[.int .u64 0, .int .u64 0] 53)).alloc (.cells #[.int .u64 0, .int .u64 0] 53)) := (Below.refl _ _).alloc (Nat.le_refl _) _
                  have hx12 := hx11.below hb12
                  have b12 := b11.trans (hb12.mono b11.size)
                  clear hb11 hb12
                  go_wp2_with (at_lookup; refine wpList_mp_none rfl (.tmp 171) (.tmp 172) 48 rfl 3 53 Try.underlying3 Try.underlying48 (zeroR _) mb _ 0 rfl hx11.mp (j : Int) rfl hjw (MR_no HA.out) ?_)
                  go_roundg (gk - 1)
                  case measure => have := HJK.out; omega
                  case rel => exact ⟨j + 1, by go_num, by have := HJK.out; omega, hx12, b12⟩
                | some v =>
                  obtain ⟨p, q, dd⟩ := v
                  have HA := Lib.hid hA
                  clear hA
                  go_wp2_with fail
                  refine (z_worth wr c cl1 0 A1 h9.cz (j : Int) p q dd HA.out (by omega)).mono ?_
                  rintro e w10 ⟨rfl, h10, s10⟩
                  have hx10 := h9.step h10 s10
                  have b10 := b9.trans (s10.bel h9.cz.sz)
                  have hb11 : Below w10.heap.size w10 (w10.alloc (.cells #[.int .u64 (p : Int), .int .u64 (q : Int)] 53)) := (Below.refl _ _).alloc (Nat.le_refl _) _
                  have hx11 := hx10.below hb11
                  have b11 := b10.trans (hb11.mono b10.size)
                  have hb12 : Below (w10.alloc (.cells #[.int .u64 (p : Int), .int .u64 (q : Int)] 53)).heap.size (w10.alloc (.cells #[.int .u64 (p : Int), .int .u64 (q : Int)] 53)) ((w10.alloc (.cells #[.int .u64 (p : Int), .int .u64 (q : Int)] 53)).alloc (.cells #[.int .u64 (p : Int), .int .u64 (q : Int)] 53)) := (Below.refl _ _).alloc (Nat.le_refl _) _
                  have hx12 := hx11.below hb12
                  have b12 := b11.trans (hb12.mono b11.size)
                  clear hb11 hb12
                  go_wp2_with (at_lookup; refine wpList_mp_some rfl (.tmp 171) (.tmp 172) 48 rfl 3 53 Try.underlying3 Try.underlying48 (zeroR _) mb _ 0 rfl hx11.mp (j : Int) rfl hjw (.agg #[.int .u64 (p : Int), .int .u64 (q : Int)]) (MR_at HA.out) ?_)
                  go_roundg (gk - 1)
                  case measure => have := HJK.out; omega
                  case rel => exact ⟨j + 1, by go_num, by have := HJK.out; omega, hx12, b12⟩
              · obtain rfl : j = 16 := by omega
                clear hjk HJK hj
                go_wp2_with fail
                go_roundg (k0 - (i + 1))
                case measure => have := HIK.out; omega
                case rel => exact ⟨i + 1, 0, cl1, A1, by go_num, rfl, by omega, h9, by omega, HS1, b9⟩
          · go_wp2_with fail
            refine (least_any _ mb n1 A1 h1.mp (h1.ids HS1.out)).mono ?_
            rintro e w5 ⟨best, rfl, hbest, b5⟩
            have hx5 := h1.below b5
            have b5' := b1.trans (b5.mono b1.size)
            clear h1 b1 b5
            go_wp2_with fail
            refine (z_least w5 c cl1 n1 A1 hx5.cz hz (by omega)).mono ?_
            rintro e w6 ⟨id, v, rfl, hA, hmin, h6, s6⟩
            obtain ⟨u, hu1, hu2, hu3⟩ := hbest.some hA
            obtain ⟨rfl, rfl⟩ := same_best hx5.cz.cq hA hu1 hmin hu3
            have hge : decide ((0 : Int) ≤ best) = true := by simp; omega
            have hmx : best = max best 0 := by omega
            have HMX := Lib.hid hmx
            clear hmx hbest hA hmin hu1 hu3
            have hx6 := hx5.step h6 s6
            have b6 := b5'.trans (s6.bel hx5.cz.sz)
            go_wp2_with (at_builtin; refine wpList_unguard (by rfl) ?_; refine wpList_max_to rfl (.tmp 143) (.const (.int .i64 0)) 3 3 rfl .i64 .i64 best 0 best rfl rfl HMX.out ?_)
            refine (z_len w6 c cl1 n1 A1 hx6.cz).mono ?_
            rintro e w7 ⟨rfl, h7, s7⟩
            have hx7 := hx6.step h7 s7
            have b7 := b6.trans (s7.bel hx6.cz.sz)
            go_wp2_with (at_len; refine wpList_unguard (by rfl) ?_; refine wpList_mp_len rfl (.tmp 150) 48 rfl 3 53 Try.underlying48 mb _ n1 rfl hx7.mp ?_)
            refine (w_clock w7 c cl1 n1 A1 hx7.cz.cq).mono ?_
            rintro e w8 ⟨rfl, rfl⟩
            have h9 := hx7
            have b9 := b7
            clear hx5 hx6 h6 h7 b6 b7 hx7 s6 s7 b5'
            go_wp2_with fail
            go_loopg [21] 16 (fun gk vi wr => ∃ j : Nat, vi = .int .i64 (j : Int) ∧ j + gk = 16 ∧ Wa w.heap.size [mb] wr c mb cl1 n1 A1 A1 n1 ∧ Below w.heap.size w wr)
            case atStart => exact ⟨0, rfl, rfl, h9, b9⟩
            case round =>
              clear h9 b9
              obtain ⟨j, rfl, hjk, h9, b9⟩ := hrel
              have HJK := Lib.hid hjk
              by_cases hj : j < 16
              · have hji : (j : Int) < 16 := by omega
                have hjw : (KL (j : Int)).wf = true := Go.WalkArith.wf_i64 ⟨by omega, by omega⟩
                clear hjk
                cases hA : A1 (j : Int) with
                | none =>
                  have HA := Lib.hid hA
                  clear hA
                  go_wp2_with fail
                  refine (z_worth0 wr c cl1 n1 A1 h9.cz (j : Int) hjw HA.out (by omega)).mono ?_
                  rintro e w10 ⟨rfl, h10, s10⟩
                  have hx10 := h9.step h10 s10
                  have b10 := b9.trans (s10.bel h9.cz.sz)
                  have hb11 : Below w10.heap.size w10 (w10.alloc (.cells #[.int .u64 0, .int .u64 0] 53)) := (Below.refl _ _).alloc (Nat.le_refl _) _
                  have hx11 := hx10.below hb11
                  have b11 := b10.trans (hb11.mono b10.size)
                  have hb12 : Below (w10.alloc (.cells #[.int .u64 0, .int .u64 0] 53)).heap.size (w10.alloc (.cells #[.int .u64 0, .int .u64 0] 53)) ((w10.alloc (.cells #[.int .u64 0, .int .u64 0] 53)).alloc (.cells #[.int .u64 0, .int .u64 0] 53)) := (Below.refl _ _).alloc (Nat.le_refl _) _
                  have hx12 := hx11.below hb12
                  have b12 := b11.trans (hb12.mono b11.size)
                  clear hb11 hb12
                  go_wp2_with (at_lookup; refine wpList_mp_none rfl (.tmp 171) (.tmp 172) 48 rfl 3 53 Try.underlying3 Try.underlying48 (zeroR _) mb _ n1 rfl hx11.mp (j : Int) rfl hjw (MR_no HA.out) ?_)
                  go_roundg (gk - 1)
                  case measure => have := HJK.out; omega
                  case rel => exact ⟨j + 1, by go_num, by have := HJK.out; omega, hx12, b12⟩
                | some v =>
                  obtain ⟨p, q, dd⟩ := v
                  have HA := Lib.hid hA
                  clear hA
                  go_wp2_with fail
                  refine (z_worth wr c cl1 n1 A1 h9.cz (j : Int) p q dd HA.out (by omega)).mono ?_
                  rintro e w10 ⟨rfl, h10, s10⟩
                  have hx10 := h9.step h10 s10
                  have b10 := b9.trans (s10.bel h9.cz.sz)
                  have hb11 : Below w10.heap.size w10 (w10.alloc (.cells #[.int .u64 (p : Int), .int .u64 (q : Int)] 53)) := (Below.refl _ _).alloc (Nat.le_refl _) _
                  have hx11 := hx10.below hb11
                  have b11 := b10.trans (hb11.mono b10.size)
                  have hb12 : Below (w10.alloc (.cells #[.int .u64 (p : Int), .int .u64 (q : Int)] 53)).heap.size (w10.alloc (.cells #[.int .u64 (p : Int), .int .u64 (q : Int)] 53)) ((w10.alloc (.cells #[.int .u64 (p : Int), .int .u64 (q : Int)] 53)).alloc (.cells #[.int .u64 (p : Int), .int .u64 (q : Int)] 53)) := (Below.refl _ _).alloc (Nat.le_refl _) _
                  have hx12 := hx11.below hb12
                  have b12 := b11.trans (hb12.mono b11.size)
                  clear hb11 hb12
                  go_wp2_with (at_lookup; refine wpList_mp_some rfl (.tmp 171) (.tmp 172) 48 rfl 3 53 Try.underlying3 Try.underlying48 (zeroR _) mb _ n1 rfl hx11.mp (j : Int) rfl hjw (.agg #[.int .u64 (p : Int), .int .u64 (q : Int)]) (MR_at HA.out) ?_)
                  go_roundg (gk - 1)
                  case measure => have := HJK.out; omega
                  case rel => exact ⟨j + 1, by go_num, by have := HJK.out; omega, hx12, b12⟩
              · obtain rfl : j = 16 := by omega
                clear hjk HJK hj
                go_wp2_with fail
                go_roundg (k0 - (i + 1))
                case measure => have := HIK.out; omega
                case rel => exact ⟨i + 1, n1, cl1, A1, by go_num, rfl, by omega, h9, by omega, HS1, b9⟩
      · obtain rfl : i = k0 := by omega
        clear hik HIK hi
        go_wp2_with fail
        go_ret
        exact ⟨rfl, bz⟩
end Go.Proofs.Ytpagleilaaljoaa.W.HR
