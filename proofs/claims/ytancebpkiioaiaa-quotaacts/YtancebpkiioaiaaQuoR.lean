/- The law QuotaActs: a ledger and the page's model side by side. -/
import Derived.Test.YtancebpkiioaiaaQuoQ
import Derived.Test.YtancebpkiioaiaaActs
namespace Go.Proofs.Ytancebpkiioaiaa.W
open Go.RowKit Go.Maps Go.ChangeMaps Go.MapKept
set_option linter.unusedVariables false

theorem Mp.run_ok {P : Program} {w : World} {b : Nat} {M : Int → Option Value} {c : Nat} {k e t : TypeId} (h : Mp P k w b M c) (hk : P.underlying k = some (.int .i64)) (ht : P.underlying t = some (.map k e)) {z : Value} (hz : (zeroValue e).run P w = .ok z w) {n : Int} (hw : (KL n).wf = true) :
    (Instr.lookup t (.map (some b)) (.int .i64 n) true).run P w = .ok (.tuple #[(M n).getD z, .bool (M n).isSome]) w := by
  obtain ⟨D, h1, h2, h3⟩ := h
  obtain ⟨es, clock, hb, F, hn, hD⟩ := h1
  obtain ⟨h4, h5⟩ := h3 n hw
  rcases Maps.fit_look true (int_keyed hk) ht hz hb F (keyOf_int_mk hk hw) with ⟨hrun, _, hat⟩ | ⟨e0, y, _, _, hrun, hRv, hat, _⟩
  · cases hr : M n with
    | none => simpa using hrun
    | some v =>
      have := h5 v hr (.lit (.bool true))
      rw [hD, hat] at this
      cases this
  · have hy : y.1 = .held e0.val := by unfold RV at hRv; cases hRv; rfl
    cases hr : M n with
    | none =>
      rw [hr] at h4
      have := Maps.atKey_of_not_has h4 (z := (.lit (.bool true) : DataW Value))
      rw [hD, hat, hy] at this
      cases this
    | some v =>
      have := h5 v hr (.lit (.bool true))
      rw [hD, hat, hy] at this
      cases this
      simpa using hrun
theorem Md.okA {w : World} {m bl bf K : Nat} {A : Int → Option Nat} {F : Int → Option Fn} (h : Md w m bl bf K A F) {n : Int} (hw : (KL n).wf = true) :
    (Instr.lookup 52 (.map (some bl)) (.int .i64 n) true).run Try.prog w = .ok (.tuple #[.int .i64 (((A n).getD 0 : Nat) : Int), .bool (A n).isSome]) w := by
  obtain ⟨c, _, p⟩ := h.la
  rw [p.run_ok Try.underlying3 Try.underlying52 (zeroN w) hw]
  cases q : A n <;> simp [MA, q]
theorem Md.okF {w : World} {m bl bf K : Nat} {A : Int → Option Nat} {F : Int → Option Fn} (h : Md w m bl bf K A F) {n : Int} (hw : (KL n).wf = true) :
    (Instr.lookup 53 (.map (some bf)) (.int .i64 n) true).run Try.prog w = .ok (.tuple #[FnV ((F n).getD (0, 0, 0)), .bool (F n).isSome]) w := by
  obtain ⟨c, _, p⟩ := h.lf
  rw [p.run_ok Try.underlying3 Try.underlying53 (zeroF w) hw]
  cases q : F n <;> simp [MF, q]

/-- A ledger and a model, and nothing below has turned. -/
structure Qs (w wr : World) (l m bl bf K : Nat) (A : Int → Option Nat) (F : Int → Option Fn) (A2 : Int → Option Nat) (F2 : Int → Option Fn) : Prop where
  lg : Lg wr l A F
  md : Md wr m bl bf K A2 F2
  bel : Below w.heap.size w wr
  lo : w.heap.size ≤ l ∧ w.heap.size ≤ bl ∧ w.heap.size ≤ bf
  d1 : l ≠ m
  d2 : l ≠ bl
  d3 : l ≠ bf
theorem Qs.below {w wr w' : World} {l m bl bf K : Nat} {A : Int → Option Nat} {F : Int → Option Fn} {A2 : Int → Option Nat} {F2 : Int → Option Fn} (h : Qs w wr l m bl bf K A F A2 F2) (hb : Below wr.heap.size wr w') : Qs w w' l m bl bf K A F A2 F2 :=
  ⟨h.lg.keep hb h.lg.lt, h.md.below hb, h.bel.trans (hb.mono h.bel.size), h.lo, h.d1, h.d2, h.d3⟩
theorem Qs.alloc {w wr : World} {l m bl bf K : Nat} {A : Int → Option Nat} {F : Int → Option Fn} {A2 : Int → Option Nat} {F2 : Int → Option Fn} (h : Qs w wr l m bl bf K A F A2 F2) (ob : Obj) : Qs w (wr.alloc ob) l m bl bf K A F A2 F2 := h.below ((Below.refl _ _).alloc (Nat.le_refl _) _)
theorem Qs.drewN {w wr : World} {l m bl bf K : Nat} {A : Int → Option Nat} {F : Int → Option Fn} {A2 : Int → Option Nat} {F2 : Int → Option Fn} (h : Qs w wr l m bl bf K A F A2 F2) (n : Nat) : Qs w (wr.drewN n) l m bl bf K A F A2 F2 := ⟨h.lg.drewN n, h.md.drewN n, below_drewN h.bel n, h.lo, h.d1, h.d2, h.d3⟩
theorem Qs.led {w wr w' : World} {l m bl bf K : Nat} {A A' : Int → Option Nat} {F F' : Int → Option Fn} {A2 : Int → Option Nat} {F2 : Int → Option Fn} (h : Qs w wr l m bl bf K A F A2 F2) (hg : wr.grownBy w' (some l)) (hl : Lg w' l A' F') : Qs w w' l m bl bf K A' F' A2 F2 :=
  ⟨hl, h.md.off hg h.d1 h.d2 h.d3, below_row h.bel h.lo.1 hg h.bel.size, h.lo, h.d1, h.d2, h.d3⟩
theorem Qs.modL {w wr w' : World} {l m bl bf K K' : Nat} {A : Int → Option Nat} {F : Int → Option Fn} {A2 A2' : Int → Option Nat} {F2 F2' : Int → Option Fn} (h : Qs w wr l m bl bf K A F A2 F2) (hg : wr.grownBy w' (some bl)) (hm : Md w' m bl bf K' A2' F2') : Qs w w' l m bl bf K' A F A2' F2' :=
  ⟨h.lg.off hg h.d2, hm, below_row h.bel h.lo.2.1 hg h.bel.size, h.lo, h.d1, h.d2, h.d3⟩
theorem Qs.modF {w wr w' : World} {l m bl bf K K' : Nat} {A : Int → Option Nat} {F : Int → Option Fn} {A2 A2' : Int → Option Nat} {F2 F2' : Int → Option Fn} (h : Qs w wr l m bl bf K A F A2 F2) (hg : wr.grownBy w' (some bf)) (hm : Md w' m bl bf K' A2' F2') : Qs w w' l m bl bf K' A F A2' F2' :=
  ⟨h.lg.off hg h.d3, hm, below_row h.bel h.lo.2.2 hg h.bel.size, h.lo, h.d1, h.d2, h.d3⟩
theorem Qs.lts {w wr : World} {l m bl bf K : Nat} {A : Int → Option Nat} {F : Int → Option Fn} {A2 : Int → Option Nat} {F2 : Int → Option Fn} (h : Qs w wr l m bl bf K A F A2 F2) : l < wr.heap.size ∧ m < wr.heap.size ∧ bl < wr.heap.size ∧ bf < wr.heap.size := ⟨h.lg.lt, h.md.lt⟩

theorem Qs.more {w wr : World} {l m bl bf K K' : Nat} {A : Int → Option Nat} {F : Int → Option Fn} {A2 : Int → Option Nat} {F2 : Int → Option Fn} (h : Qs w wr l m bl bf K A F A2 F2) (hk : K ≤ K') : Qs w wr l m bl bf K' A F A2 F2 := ⟨h.lg, h.md.more hk, h.bel, h.lo, h.d1, h.d2, h.d3⟩
theorem row_cell {w : World} {q j : Nat} {cs : List Value} {t : TypeId} (h : w.heap[q]? = some (.cells cs.toArray t (0, 0))) {v : Value} (hv : cs[j]? = some v) : w.cell? ⟨q, j, none⟩ = some v := cellL h j v hv
theorem end_none {F : Int → Option Fn} {f : Int} (h : F f = none) : endF F f = F := endF_no (busy_none h)

set_option maxRecDepth 100000 in
set_option maxHeartbeats 6400000 in
theorem qacts_walk (a0 : Option Addr) (k cap : Nat) (Z : Nat → Int) (_hc : k ≤ cap) (w : World) (L : Lies w w.heap.size a0 (zs Z (k * 4))) (wf : ∀ j, j < k * 4 → (Lit.int .i64 (Z j)).wf = true) :
    Calls Try.prog 7 #[.slice a0 k cap] w fun e w' => e = .returned (.bool true) ∧ Below w.heap.size w w' := by
  by_cases hk : 120 < k
  · have hki : decide ((120 : Int) < (k : Int)) = true := by simp; omega
    go_enter Try.func7, Try.ntmps7
    go_wp2_with fail
    refine (head11 _).mono ?_
    rintro e w1 ⟨rfl, b1⟩
    go_wp2_with fail
    go_ret
    exact ⟨rfl, b1⟩
  · have hki : decide ((120 : Int) < (k : Int)) = false := by simp; omega
    have hk120 := Lib.hid (show k ≤ 120 by omega)
    clear hk
    go_enter Try.func7, Try.ntmps7
    go_wp2_with fail
    refine (head11 _).mono ?_
    rintro e w1 ⟨rfl, b1⟩
    go_wp2_with fail
    refine (l_new w1).mono ?_
    rintro e w2 ⟨rfl, h2, b2⟩
    obtain ⟨l, hl⟩ : ∃ l, w1.heap.size = l := ⟨_, rfl⟩
    have bb2 := b1.trans (b2.mono b1.size)
    have hll : w.heap.size ≤ l := by rw [← hl]; exact b1.size
    rw [hl] at h2
    rw [hl]
    clear hl b1 b2
    go_wp2_with fail
    refine (m_new w2).mono ?_
    rintro e w3 ⟨m, bl, bf, rfl, h3, s1, s2, s3, b3⟩
    have hlt2 := h2.lt
    have hQ : Qs w w3 l m bl bf 0 noA noF noA noF := ⟨h2.keep b3 hlt2, h3, bb2.trans (b3.mono bb2.size), ⟨hll, Nat.le_trans bb2.size s2, Nat.le_trans bb2.size s3⟩, by omega, by omega, by omega⟩
    clear h2 bb2 h3 s1 s2 s3 b3 hlt2 hll
    go_wp2_with fail
    clear hki
    go_loopg [35] k (fun gk vi wr => ∃ (i : Nat) (A : Int → Option Nat) (F : Int → Option Fn), vi = .int .i64 (i : Int) ∧ i + gk = k ∧ Qs w wr l m bl bf (i * 2) A F A F)
    case atStart => exact ⟨0, noA, noF, rfl, by omega, hQ⟩
    case round =>
      clear hQ
      obtain ⟨i, A, F, rfl, hik, hQ⟩ := hrel
      have HIK := Lib.hid hik
      by_cases hi : i < k
      · obtain ⟨ad, hA, hadb, hcell⟩ := (L.below hQ.bel (Nat.le_refl _)).num (j := i * 4) (by omega)
        have hii : (i : Int) < (k : Int) := by omega
        have x0 := hcell (i * 4) (by omega)
        have x1 := cell_in (c := 0) (hcell (i * 4 + 1) (by omega))
        have x2 := cell_in (c := 1) (hcell (i * 4 + 2) (by omega))
        have x3 := cell_in (c := 2) (hcell (i * 4 + 3) (by omega))
        rw [Nat.zero_add] at x1
        rw [show (1 : Nat) + 1 = 2 from rfl] at x2
        rw [show (2 : Nat) + 1 = 3 from rfl] at x3
        have wz1 := wf (i * 4 + 1) (by omega)
        have wz2 := wf (i * 4 + 2) (by omega)
        obtain ⟨z0, hz0⟩ : ∃ z, Z (i * 4) = z := ⟨_, rfl⟩
        obtain ⟨z1, hz1⟩ : ∃ z, Z (i * 4 + 1) = z := ⟨_, rfl⟩
        obtain ⟨z2, hz2⟩ : ∃ z, Z (i * 4 + 2) = z := ⟨_, rfl⟩
        obtain ⟨z3, hz3⟩ : ∃ z, Z (i * 4 + 3) = z := ⟨_, rfl⟩
        rw [hz0] at x0
        rw [hz1] at x1 wz1
        rw [hz2] at x2 wz2
        rw [hz3] at x3
        have HA := Lib.hid hA
        subst hA
        clear hcell hik hz0 hz1 hz2 hz3 HA
        obtain ⟨kd, hkd, hkd8⟩ := and_nat z0 7 3 8 (by decide) (by decide) (by decide)
        have h4 := hQ.alloc (.cells #[.int .i64 z0, .int .i64 z1, .int .i64 z2, .int .i64 z3] 42)
        have HQ4 := Lib.hid (heap_alloc_new wr (.cells #[.int .i64 z0, .int .i64 z1, .int .i64 z2, .int .i64 z3] 42))
        have hlts := hQ.lts
        go_upto_region 10 with (fail)
        obtain ⟨q, hq⟩ : ∃ q, wr.heap.size = q := ⟨_, rfl⟩
        rw [hq] at HQ4 hlts
        rw [hq]
        clear hq x0 x1 x2 x3 hQ
        generalize wr.alloc (.cells #[.int .i64 z0, .int .i64 z1, .int .i64 z2, .int .i64 z3] 42) = w4 at h4 HQ4 ⊢
        have y1 := cell_of_row _ _ 1 _ _ _ HQ4.out
        go_wp2_with fail
        refine (m_ask w4 m bl bf _ A F z1 h4.md wz1).mono ?_
        rintro e w5 ⟨rfl, b5⟩
        have h5 := h4.below b5
        have HQ5 := Lib.hid ((Only.of_below (S := fun _ => False) b5).blk (fun q => q) HQ4.out)
        clear y1 HQ4 h4 b5
        have y0 : w5.cell? ⟨q, 0, none⟩ = some (.int .i64 z0) := cell_of_row _ _ 0 _ _ _ HQ5.out
        have y1 : w5.cell? ⟨q, 1, none⟩ = some (.int .i64 z1) := cell_of_row _ _ 1 _ _ _ HQ5.out
        have y2 : w5.cell? ⟨q, 2, none⟩ = some (.int .i64 z2) := cell_of_row _ _ 2 _ _ _ HQ5.out
        have y3 : w5.cell? ⟨q, 3, none⟩ = some (.int .i64 z3) := cell_of_row _ _ 3 _ _ _ HQ5.out
        obtain ⟨an, han⟩ : ∃ an, askC A F z1 = an := ⟨_, rfl⟩
        rw [han]
        have HAN := Lib.hid han
        obtain ⟨an1, an2⟩ := an
        clear han
        go_upto_block 2 with (fail)
        go_cut [] (fun wc => ∃ (A' : Int → Option Nat) (F' : Int → Option Fn), Qs w wc l m bl bf ((i + 1) * 2) A' F' A' F')
        case first =>
          have hK2 : i * 2 < 100000 := by have := hk120.out; omega
          rcases (show kd = 0 ∨ kd = 1 ∨ kd = 5 ∨ kd = 6 ∨ kd = 7 ∨ (kd = 2 ∨ kd = 3 ∨ kd = 4) by omega) with rfl | rfl | rfl | rfl | rfl | hkd3
          · as_aux_lemma =>
              go_upto_region 18 with (fail)
              have hd5 := h5.drewN 1
              have HS0 := Lib.hid (show w5.drew.cell? ⟨q, 1, none⟩ = some (.int .i64 z1) ∧ w5.drew.cell? ⟨q, 2, none⟩ = some (.int .i64 z2) ∧ w5.drew.cell? ⟨q, 3, none⟩ = some (.int .i64 z3) from ⟨y1, y2, y3⟩)
              clear y0 y1 y2 y3
              go_region_held3 (fun w' => w'.cell? ⟨q, 1, none⟩ = some (.int .i64 z1) ∧ w'.cell? ⟨q, 2, none⟩ = some (.int .i64 z2) ∧ w'.cell? ⟨q, 3, none⟩ = some (.int .i64 z3)) (first | exact HS0.out | exact s7.out | exact s6.out | assumption)
                (first
                  | (go_at_call 23; refine (l_setA l A F z2 z3 _ hd5.lg).mono ?_; rintro e w6 ⟨rfl, hl6, g6⟩; have h6 := hd5.led g6 hl6; have HQ6 := Lib.hid (row_kept (show w5.drew.heap[q]? = some (.cells [Value.int .i64 z0, .int .i64 z1, .int .i64 z2, .int .i64 z3].toArray 42 (0, 0)) from HQ5.out) g6 (by omega)); have s6 := Lib.hid (And.intro (row_cell HQ6.out (j := 1) rfl) (And.intro (row_cell HQ6.out (j := 2) rfl) (row_cell HQ6.out (j := 3) rfl))))
                  | (go_at_call 24; refine (m_setA _ m bl bf (i * 2) A F z2 z3 h6.md hK2).mono ?_; rintro e w7 ⟨rfl, hm7, g7⟩; have h7 := h6.modL g7 hm7; have HQ7 := Lib.hid (row_kept HQ6.out g7 (by omega)); have s7 := Lib.hid (And.intro (row_cell HQ7.out (j := 1) rfl) (And.intro (row_cell HQ7.out (j := 2) rfl) (row_cell HQ7.out (j := 3) rfl)))))
              clear hd5 h6 HQ6 s6 HQ7 HS0 s7 hl6 g6 hm7 g7
              go_wp2_with fail
              go_meet
              exact ⟨_, _, h7.more (by omega)⟩
          · as_aux_lemma =>
              go_upto_region 21 with (fail)
              have hd5 := h5.drewN 1
              have HS0 := Lib.hid (show w5.drew.cell? ⟨q, 1, none⟩ = some (.int .i64 z1) ∧ w5.drew.cell? ⟨q, 2, none⟩ = some (.int .i64 z2) ∧ w5.drew.cell? ⟨q, 3, none⟩ = some (.int .i64 z3) from ⟨y1, y2, y3⟩)
              clear y0 y1 y2 y3
              go_region_held3 (fun w' => w'.cell? ⟨q, 1, none⟩ = some (.int .i64 z1) ∧ w'.cell? ⟨q, 2, none⟩ = some (.int .i64 z2) ∧ w'.cell? ⟨q, 3, none⟩ = some (.int .i64 z3)) (first | exact HS0.out | exact s7.out | exact s6.out | assumption)
                (first
                  | (go_at_call 25; refine (l_setF l A F z1 z2 z3 _ hd5.lg).mono ?_; rintro e w6 ⟨rfl, hl6, g6⟩; have h6 := hd5.led g6 hl6; have HQ6 := Lib.hid (row_kept (show w5.drew.heap[q]? = some (.cells [Value.int .i64 z0, .int .i64 z1, .int .i64 z2, .int .i64 z3].toArray 42 (0, 0)) from HQ5.out) g6 (by omega)); have s6 := Lib.hid (And.intro (row_cell HQ6.out (j := 1) rfl) (And.intro (row_cell HQ6.out (j := 2) rfl) (row_cell HQ6.out (j := 3) rfl))))
                  | (go_at_call 26; refine (m_setF _ m bl bf (i * 2) A F z1 z2 z3 h6.md hK2).mono ?_; rintro e w7 ⟨rfl, hm7, g7⟩; have h7 := h6.modF g7 hm7; have HQ7 := Lib.hid (row_kept HQ6.out g7 (by omega)); have s7 := Lib.hid (And.intro (row_cell HQ7.out (j := 1) rfl) (And.intro (row_cell HQ7.out (j := 2) rfl) (row_cell HQ7.out (j := 3) rfl)))))
              clear hd5 h6 HQ6 s6 HQ7 HS0 s7 hl6 g6 hm7 g7
              go_wp2_with fail
              go_meet
              exact ⟨_, _, h7.more (by omega)⟩
          · as_aux_lemma =>
              cases hF : F z1 with
              | none =>
                have HF := Lib.hid hF
                have HE := Lib.hid (end_none hF)
                have HBY := Lib.hid (busy_none hF)
                clear hF
                have hSL : ∀ w', Md w' m bl bf (i * 2) A F → (Instr.lookup 53 (.map (some bf)) (.int .i64 z1) true).run Try.prog w' = .ok (.tuple #[(.agg #[.int .i64 0, .int .i64 0, .int .i64 0]), .bool false]) w' := fun w' h => by rw [h.okF wz1, HF.out]; rfl
                have hc1 := h5.md.c1
                have hla := hSL w5.drew (h5.md.drewN 1)
                have hlb := fun ob => hSL (w5.alloc ob).drew ((h5.alloc ob).md.drewN 1)
                have HS0 := Lib.hid (show w5.drew.cell? ⟨m, 1, none⟩ = some (.map (some bf)) ∧ w5.drew.cell? ⟨q, 1, none⟩ = some (.int .i64 z1) ∧ (Instr.lookup 53 (.map (some bf)) (.int .i64 z1) true).run Try.prog w5.drew = .ok (.tuple #[(.agg #[.int .i64 0, .int .i64 0, .int .i64 0]), .bool false]) w5.drew from ⟨hc1, y1, hla⟩)
                have HSA := Lib.hid (fun ob => show (w5.alloc ob).drew.cell? ⟨m, 1, none⟩ = some (.map (some bf)) ∧ (w5.alloc ob).drew.cell? ⟨q, 1, none⟩ = some (.int .i64 z1) ∧ (Instr.lookup 53 (.map (some bf)) (.int .i64 z1) true).run Try.prog (w5.alloc ob).drew = .ok (.tuple #[(.agg #[.int .i64 0, .int .i64 0, .int .i64 0]), .bool false]) (w5.alloc ob).drew from ⟨(h5.alloc ob).md.c1, (Only.of_below (S := fun _ => False) ((Below.refl w5.heap.size w5).alloc (Nat.le_refl _) ob)).cell (fun q => q) y1, hlb ob⟩)
                go_upto_region 25 with (fail)
                have h6' := (h5.alloc (.cells #[.int .i64 0, .int .i64 0, .int .i64 0] 50)).drewN 1
                have HB6' := Lib.hid (show (w5.alloc (.cells #[.int .i64 0, .int .i64 0, .int .i64 0] 50)).drew.heap[w5.heap.size]? = some (.cells [Value.int .i64 0, .int .i64 0, .int .i64 0].toArray 50 (0, 0)) from heap_alloc_new w5 (.cells #[.int .i64 0, .int .i64 0, .int .i64 0] 50))
                have HQ6' := Lib.hid (show (w5.alloc (.cells #[.int .i64 0, .int .i64 0, .int .i64 0] 50)).drew.heap[q]? = some (.cells [Value.int .i64 z0, .int .i64 z1, .int .i64 z2, .int .i64 z3].toArray 42 (0, 0)) from (Only.of_below (S := fun _ => False) ((Below.refl w5.heap.size w5).alloc (Nat.le_refl _) (.cells #[.int .i64 0, .int .i64 0, .int .i64 0] 50))).blk (fun q => q) HQ5.out)
                have h6 : Qs w (w5.alloc (.cells #[.int .i64 0, .int .i64 0, .int .i64 0] 50)).drew l m bl bf (i * 2) A F A F := h6'
                have hl5 := h5.lts
                clear hla hlb hc1 hSL y0 y1 y2 y3 h6'
                go_region_held3 (fun w' => w'.cell? ⟨m, 1, none⟩ = some (.map (some bf)) ∧ w'.cell? ⟨q, 1, none⟩ = some (.int .i64 z1) ∧ (Instr.lookup 53 (.map (some bf)) (.int .i64 z1) true).run Try.prog w' = .ok (.tuple #[(.agg #[.int .i64 0, .int .i64 0, .int .i64 0]), .bool false]) w') (first | exact HS0.out | exact HSA.out _ | assumption) (fail)
                all_goals
                  (generalize (w5.alloc (.cells #[.int .i64 0, .int .i64 0, .int .i64 0] 50)).drew = w6 at h6 HB6' HQ6' ⊢
                   obtain ⟨g, hg⟩ : ∃ g, w5.heap.size = g := ⟨_, rfl⟩
                   rw [hg] at HB6' hl5
                   rw [hg]
                   clear hg HS0 HSA h5 HQ5
                   have v1 := row_cell HQ6'.out (j := 1) rfl
                   have v2 := row_cell HB6'.out (j := 2) rfl
                   go_wp2_with fail
                   refine (l_end l A F z1 _ h6.lg).mono ?_
                   rintro e w7 ⟨rfl, hl7, g7⟩
                   have h7 := h6.led g7 hl7
                   have HQ7 := Lib.hid (row_kept HQ6'.out g7 (by omega))
                   have HB7 := Lib.hid (row_kept HB6'.out g7 (by omega))
                   clear v1 v2 HQ6' HB6' h6 hl7 g7
                   have v1 := row_cell HQ7.out (j := 1) rfl
                   have v2 := row_cell HB7.out (j := 2) rfl
                   rw [HBY.out]
                   go_wp2_with fail
                   go_meet
                   rw [HE.out] at h7
                   exact ⟨_, _, h7.more (by omega)⟩)
              | some v =>
                obtain ⟨o, r, b⟩ := v
                have HF := Lib.hid hF
                have HBY := Lib.hid (busy_some hF)
                have hbd := h5.lg.ab.f0 _ _ _ _ hF
                have hbI : (b : Int) ≤ 1000 := by omega
                obtain ⟨f, hf⟩ : ∃ f : Nat, z1 = (f : Int) := ⟨z1.toNat, by omega⟩
                have HZ := Lib.hid hf
                have HBD := Lib.hid hbd
                clear hF hbd hf
                have hSL : ∀ w', Md w' m bl bf (i * 2) A F → (Instr.lookup 53 (.map (some bf)) (.int .i64 z1) true).run Try.prog w' = .ok (.tuple #[(.agg #[.int .i64 (o : Int), .int .i64 (r : Int), .int .i64 (b : Int)]), .bool true]) w' := fun w' h => by rw [h.okF wz1, HF.out]; rfl
                have hc1 := h5.md.c1
                have hla := hSL w5.drew (h5.md.drewN 1)
                have hlb := fun ob => hSL (w5.alloc ob).drew ((h5.alloc ob).md.drewN 1)
                have HS0 := Lib.hid (show w5.drew.cell? ⟨m, 1, none⟩ = some (.map (some bf)) ∧ w5.drew.cell? ⟨q, 1, none⟩ = some (.int .i64 z1) ∧ (Instr.lookup 53 (.map (some bf)) (.int .i64 z1) true).run Try.prog w5.drew = .ok (.tuple #[(.agg #[.int .i64 (o : Int), .int .i64 (r : Int), .int .i64 (b : Int)]), .bool true]) w5.drew from ⟨hc1, y1, hla⟩)
                have HSA := Lib.hid (fun ob => show (w5.alloc ob).drew.cell? ⟨m, 1, none⟩ = some (.map (some bf)) ∧ (w5.alloc ob).drew.cell? ⟨q, 1, none⟩ = some (.int .i64 z1) ∧ (Instr.lookup 53 (.map (some bf)) (.int .i64 z1) true).run Try.prog (w5.alloc ob).drew = .ok (.tuple #[(.agg #[.int .i64 (o : Int), .int .i64 (r : Int), .int .i64 (b : Int)]), .bool true]) (w5.alloc ob).drew from ⟨(h5.alloc ob).md.c1, (Only.of_below (S := fun _ => False) ((Below.refl w5.heap.size w5).alloc (Nat.le_refl _) ob)).cell (fun q => q) y1, hlb ob⟩)
                go_upto_region 25 with (fail)
                have h6' := (h5.alloc (.cells #[.int .i64 (o : Int), .int .i64 (r : Int), .int .i64 (b : Int)] 50)).drewN 1
                have HB6' := Lib.hid (show (w5.alloc (.cells #[.int .i64 (o : Int), .int .i64 (r : Int), .int .i64 (b : Int)] 50)).drew.heap[w5.heap.size]? = some (.cells [Value.int .i64 (o : Int), .int .i64 (r : Int), .int .i64 (b : Int)].toArray 50 (0, 0)) from heap_alloc_new w5 (.cells #[.int .i64 (o : Int), .int .i64 (r : Int), .int .i64 (b : Int)] 50))
                have HQ6' := Lib.hid (show (w5.alloc (.cells #[.int .i64 (o : Int), .int .i64 (r : Int), .int .i64 (b : Int)] 50)).drew.heap[q]? = some (.cells [Value.int .i64 z0, .int .i64 z1, .int .i64 z2, .int .i64 z3].toArray 42 (0, 0)) from (Only.of_below (S := fun _ => False) ((Below.refl w5.heap.size w5).alloc (Nat.le_refl _) (.cells #[.int .i64 (o : Int), .int .i64 (r : Int), .int .i64 (b : Int)] 50))).blk (fun q => q) HQ5.out)
                have h6 : Qs w (w5.alloc (.cells #[.int .i64 (o : Int), .int .i64 (r : Int), .int .i64 (b : Int)] 50)).drew l m bl bf (i * 2) A F A F := h6'
                have hl5 := h5.lts
                clear hla hlb hc1 hSL y0 y1 y2 y3 h6'
                go_region_held3 (fun w' => w'.cell? ⟨m, 1, none⟩ = some (.map (some bf)) ∧ w'.cell? ⟨q, 1, none⟩ = some (.int .i64 z1) ∧ (Instr.lookup 53 (.map (some bf)) (.int .i64 z1) true).run Try.prog w' = .ok (.tuple #[(.agg #[.int .i64 (o : Int), .int .i64 (r : Int), .int .i64 (b : Int)]), .bool true]) w') (first | exact HS0.out | exact HSA.out _ | assumption) (fail)
                all_goals
                  (generalize (w5.alloc (.cells #[.int .i64 (o : Int), .int .i64 (r : Int), .int .i64 (b : Int)] 50)).drew = w6 at h6 HB6' HQ6' ⊢
                   obtain ⟨g, hg⟩ : ∃ g, w5.heap.size = g := ⟨_, rfl⟩
                   rw [hg] at HB6' hl5
                   rw [hg]
                   clear hg HS0 HSA h5 HQ5
                   have v1 := row_cell HQ6'.out (j := 1) rfl
                   have v2 := row_cell HB6'.out (j := 2) rfl
                   go_wp2_with fail
                   refine (l_end l A F z1 _ h6.lg).mono ?_
                   rintro e w7 ⟨rfl, hl7, g7⟩
                   have h7 := h6.led g7 hl7
                   have HQ7 := Lib.hid (row_kept HQ6'.out g7 (by omega))
                   have HB7 := Lib.hid (row_kept HB6'.out g7 (by omega))
                   clear v1 v2 HQ6' HB6' h6 hl7 g7
                   have v1 := row_cell HQ7.out (j := 1) rfl
                   have v2 := row_cell HB7.out (j := 2) rfl
                   rw [HBY.out]
                   cases b with
                   | zero =>
                     go_wp2_with fail
                     go_meet
                     rw [endF_no HBY.out] at h7
                     exact ⟨_, _, h7.more (by omega)⟩
                   | succ b =>
                     have hb1 : ((b + 1 : Nat) : Int) = (b : Int) + 1 := by omega
                     have hbp : decide ((0 : Int) < (b : Int) + 1) = true := decide_eq_true (by omega)
                     have HB1 := Lib.hid hb1
                     rw [hb1] at v2
                     rw [decide_eq_true (show 0 < b + 1 by omega)]
                     clear hb1
                     go_wp2_with fail
                     rw [HZ.out]
                     refine (m_turn _ m bl bf (i * 2) A F f o r (b + 1) b (-1) h7.md hK2 (by rw [← HZ.out]; exact HF.out) (by have := HBD.out; omega) (by omega)).mono ?_
                     rintro e w8 ⟨rfl, hm8, g8⟩
                     have h8 := h7.modF g8 hm8
                     rw [← HZ.out, ← endF_yes HF.out] at h8
                     clear v1 v2
                     go_wp2_with fail
                     go_meet
                     exact ⟨_, _, h8.more (by omega)⟩)
          · as_aux_lemma =>
              cases hF : F z1 with
              | none =>
                have HF := Lib.hid hF
                have HE := Lib.hid (end_none hF)
                have HBY := Lib.hid (busy_none hF)
                clear hF
                have hSL : ∀ w', Md w' m bl bf (i * 2) A F → (Instr.lookup 53 (.map (some bf)) (.int .i64 z1) true).run Try.prog w' = .ok (.tuple #[(.agg #[.int .i64 0, .int .i64 0, .int .i64 0]), .bool false]) w' := fun w' h => by rw [h.okF wz1, HF.out]; rfl
                have hc1 := h5.md.c1
                have hla := hSL w5.drew (h5.md.drewN 1)
                have hlb := fun ob => hSL (w5.alloc ob).drew ((h5.alloc ob).md.drewN 1)
                have HS0 := Lib.hid (show w5.drew.cell? ⟨m, 1, none⟩ = some (.map (some bf)) ∧ w5.drew.cell? ⟨q, 1, none⟩ = some (.int .i64 z1) ∧ (Instr.lookup 53 (.map (some bf)) (.int .i64 z1) true).run Try.prog w5.drew = .ok (.tuple #[(.agg #[.int .i64 0, .int .i64 0, .int .i64 0]), .bool false]) w5.drew from ⟨hc1, y1, hla⟩)
                have HSA := Lib.hid (fun ob => show (w5.alloc ob).drew.cell? ⟨m, 1, none⟩ = some (.map (some bf)) ∧ (w5.alloc ob).drew.cell? ⟨q, 1, none⟩ = some (.int .i64 z1) ∧ (Instr.lookup 53 (.map (some bf)) (.int .i64 z1) true).run Try.prog (w5.alloc ob).drew = .ok (.tuple #[(.agg #[.int .i64 0, .int .i64 0, .int .i64 0]), .bool false]) (w5.alloc ob).drew from ⟨(h5.alloc ob).md.c1, (Only.of_below (S := fun _ => False) ((Below.refl w5.heap.size w5).alloc (Nat.le_refl _) ob)).cell (fun q => q) y1, hlb ob⟩)
                go_upto_region 25 with (fail)
                have h6' := (h5.alloc (.cells #[.int .i64 0, .int .i64 0, .int .i64 0] 50)).drewN 1
                have HB6' := Lib.hid (show (w5.alloc (.cells #[.int .i64 0, .int .i64 0, .int .i64 0] 50)).drew.heap[w5.heap.size]? = some (.cells [Value.int .i64 0, .int .i64 0, .int .i64 0].toArray 50 (0, 0)) from heap_alloc_new w5 (.cells #[.int .i64 0, .int .i64 0, .int .i64 0] 50))
                have HQ6' := Lib.hid (show (w5.alloc (.cells #[.int .i64 0, .int .i64 0, .int .i64 0] 50)).drew.heap[q]? = some (.cells [Value.int .i64 z0, .int .i64 z1, .int .i64 z2, .int .i64 z3].toArray 42 (0, 0)) from (Only.of_below (S := fun _ => False) ((Below.refl w5.heap.size w5).alloc (Nat.le_refl _) (.cells #[.int .i64 0, .int .i64 0, .int .i64 0] 50))).blk (fun q => q) HQ5.out)
                have h6 : Qs w (w5.alloc (.cells #[.int .i64 0, .int .i64 0, .int .i64 0] 50)).drew l m bl bf (i * 2) A F A F := h6'
                have hl5 := h5.lts
                clear hla hlb hc1 hSL y0 y1 y2 y3 h6'
                go_region_held3 (fun w' => w'.cell? ⟨m, 1, none⟩ = some (.map (some bf)) ∧ w'.cell? ⟨q, 1, none⟩ = some (.int .i64 z1) ∧ (Instr.lookup 53 (.map (some bf)) (.int .i64 z1) true).run Try.prog w' = .ok (.tuple #[(.agg #[.int .i64 0, .int .i64 0, .int .i64 0]), .bool false]) w') (first | exact HS0.out | exact HSA.out _ | assumption) (fail)
                all_goals
                  (generalize (w5.alloc (.cells #[.int .i64 0, .int .i64 0, .int .i64 0] 50)).drew = w6 at h6 HB6' HQ6' ⊢
                   obtain ⟨g, hg⟩ : ∃ g, w5.heap.size = g := ⟨_, rfl⟩
                   rw [hg] at HB6' hl5
                   rw [hg]
                   clear hg HS0 HSA h5 HQ5
                   have v1 := row_cell HQ6'.out (j := 1) rfl
                   have v2 := row_cell HB6'.out (j := 2) rfl
                   go_wp2_with fail
                   refine (l_end l A F z1 _ h6.lg).mono ?_
                   rintro e w7 ⟨rfl, hl7, g7⟩
                   have h7 := h6.led g7 hl7
                   have HQ7 := Lib.hid (row_kept HQ6'.out g7 (by omega))
                   have HB7 := Lib.hid (row_kept HB6'.out g7 (by omega))
                   clear v1 v2 HQ6' HB6' h6 hl7 g7
                   have v1 := row_cell HQ7.out (j := 1) rfl
                   have v2 := row_cell HB7.out (j := 2) rfl
                   rw [HBY.out]
                   go_wp2_with fail
                   go_meet
                   rw [HE.out] at h7
                   exact ⟨_, _, h7.more (by omega)⟩)
              | some v =>
                obtain ⟨o, r, b⟩ := v
                have HF := Lib.hid hF
                have HBY := Lib.hid (busy_some hF)
                have hbd := h5.lg.ab.f0 _ _ _ _ hF
                have hbI : (b : Int) ≤ 1000 := by omega
                obtain ⟨f, hf⟩ : ∃ f : Nat, z1 = (f : Int) := ⟨z1.toNat, by omega⟩
                have HZ := Lib.hid hf
                have HBD := Lib.hid hbd
                clear hF hbd hf
                have hSL : ∀ w', Md w' m bl bf (i * 2) A F → (Instr.lookup 53 (.map (some bf)) (.int .i64 z1) true).run Try.prog w' = .ok (.tuple #[(.agg #[.int .i64 (o : Int), .int .i64 (r : Int), .int .i64 (b : Int)]), .bool true]) w' := fun w' h => by rw [h.okF wz1, HF.out]; rfl
                have hc1 := h5.md.c1
                have hla := hSL w5.drew (h5.md.drewN 1)
                have hlb := fun ob => hSL (w5.alloc ob).drew ((h5.alloc ob).md.drewN 1)
                have HS0 := Lib.hid (show w5.drew.cell? ⟨m, 1, none⟩ = some (.map (some bf)) ∧ w5.drew.cell? ⟨q, 1, none⟩ = some (.int .i64 z1) ∧ (Instr.lookup 53 (.map (some bf)) (.int .i64 z1) true).run Try.prog w5.drew = .ok (.tuple #[(.agg #[.int .i64 (o : Int), .int .i64 (r : Int), .int .i64 (b : Int)]), .bool true]) w5.drew from ⟨hc1, y1, hla⟩)
                have HSA := Lib.hid (fun ob => show (w5.alloc ob).drew.cell? ⟨m, 1, none⟩ = some (.map (some bf)) ∧ (w5.alloc ob).drew.cell? ⟨q, 1, none⟩ = some (.int .i64 z1) ∧ (Instr.lookup 53 (.map (some bf)) (.int .i64 z1) true).run Try.prog (w5.alloc ob).drew = .ok (.tuple #[(.agg #[.int .i64 (o : Int), .int .i64 (r : Int), .int .i64 (b : Int)]), .bool true]) (w5.alloc ob).drew from ⟨(h5.alloc ob).md.c1, (Only.of_below (S := fun _ => False) ((Below.refl w5.heap.size w5).alloc (Nat.le_refl _) ob)).cell (fun q => q) y1, hlb ob⟩)
                go_upto_region 25 with (fail)
                have h6' := (h5.alloc (.cells #[.int .i64 (o : Int), .int .i64 (r : Int), .int .i64 (b : Int)] 50)).drewN 1
                have HB6' := Lib.hid (show (w5.alloc (.cells #[.int .i64 (o : Int), .int .i64 (r : Int), .int .i64 (b : Int)] 50)).drew.heap[w5.heap.size]? = some (.cells [Value.int .i64 (o : Int), .int .i64 (r : Int), .int .i64 (b : Int)].toArray 50 (0, 0)) from heap_alloc_new w5 (.cells #[.int .i64 (o : Int), .int .i64 (r : Int), .int .i64 (b : Int)] 50))
                have HQ6' := Lib.hid (show (w5.alloc (.cells #[.int .i64 (o : Int), .int .i64 (r : Int), .int .i64 (b : Int)] 50)).drew.heap[q]? = some (.cells [Value.int .i64 z0, .int .i64 z1, .int .i64 z2, .int .i64 z3].toArray 42 (0, 0)) from (Only.of_below (S := fun _ => False) ((Below.refl w5.heap.size w5).alloc (Nat.le_refl _) (.cells #[.int .i64 (o : Int), .int .i64 (r : Int), .int .i64 (b : Int)] 50))).blk (fun q => q) HQ5.out)
                have h6 : Qs w (w5.alloc (.cells #[.int .i64 (o : Int), .int .i64 (r : Int), .int .i64 (b : Int)] 50)).drew l m bl bf (i * 2) A F A F := h6'
                have hl5 := h5.lts
                clear hla hlb hc1 hSL y0 y1 y2 y3 h6'
                go_region_held3 (fun w' => w'.cell? ⟨m, 1, none⟩ = some (.map (some bf)) ∧ w'.cell? ⟨q, 1, none⟩ = some (.int .i64 z1) ∧ (Instr.lookup 53 (.map (some bf)) (.int .i64 z1) true).run Try.prog w' = .ok (.tuple #[(.agg #[.int .i64 (o : Int), .int .i64 (r : Int), .int .i64 (b : Int)]), .bool true]) w') (first | exact HS0.out | exact HSA.out _ | assumption) (fail)
                all_goals
                  (generalize (w5.alloc (.cells #[.int .i64 (o : Int), .int .i64 (r : Int), .int .i64 (b : Int)] 50)).drew = w6 at h6 HB6' HQ6' ⊢
                   obtain ⟨g, hg⟩ : ∃ g, w5.heap.size = g := ⟨_, rfl⟩
                   rw [hg] at HB6' hl5
                   rw [hg]
                   clear hg HS0 HSA h5 HQ5
                   have v1 := row_cell HQ6'.out (j := 1) rfl
                   have v2 := row_cell HB6'.out (j := 2) rfl
                   go_wp2_with fail
                   refine (l_end l A F z1 _ h6.lg).mono ?_
                   rintro e w7 ⟨rfl, hl7, g7⟩
                   have h7 := h6.led g7 hl7
                   have HQ7 := Lib.hid (row_kept HQ6'.out g7 (by omega))
                   have HB7 := Lib.hid (row_kept HB6'.out g7 (by omega))
                   clear v1 v2 HQ6' HB6' h6 hl7 g7
                   have v1 := row_cell HQ7.out (j := 1) rfl
                   have v2 := row_cell HB7.out (j := 2) rfl
                   rw [HBY.out]
                   cases b with
                   | zero =>
                     go_wp2_with fail
                     go_meet
                     rw [endF_no HBY.out] at h7
                     exact ⟨_, _, h7.more (by omega)⟩
                   | succ b =>
                     have hb1 : ((b + 1 : Nat) : Int) = (b : Int) + 1 := by omega
                     have hbp : decide ((0 : Int) < (b : Int) + 1) = true := decide_eq_true (by omega)
                     have HB1 := Lib.hid hb1
                     rw [hb1] at v2
                     rw [decide_eq_true (show 0 < b + 1 by omega)]
                     clear hb1
                     go_wp2_with fail
                     rw [HZ.out]
                     refine (m_turn _ m bl bf (i * 2) A F f o r (b + 1) b (-1) h7.md hK2 (by rw [← HZ.out]; exact HF.out) (by have := HBD.out; omega) (by omega)).mono ?_
                     rintro e w8 ⟨rfl, hm8, g8⟩
                     have h8 := h7.modF g8 hm8
                     rw [← HZ.out, ← endF_yes HF.out] at h8
                     clear v1 v2
                     go_wp2_with fail
                     go_meet
                     exact ⟨_, _, h8.more (by omega)⟩)
          · as_aux_lemma =>
              go_wp2_with fail
              refine (l_ask l A F z1 _ h5.lg).mono ?_
              rintro e w6 ⟨rfl, b6⟩
              rw [HAN.out]
              have h6 := h5.below b6
              clear y0 y1 y2 y3
              go_wp2_with fail
              go_meet
              exact ⟨_, _, h6.more (by omega)⟩
          · as_aux_lemma =>
              have hk0 : ((kd : Int) == 0) = false := by simp; omega
              have hk1 : ((kd : Int) == 1) = false := by simp; omega
              have hk5 : ((kd : Int) == 5) = false := by simp; omega
              have hk6 : ((kd : Int) == 6) = false := by simp; omega
              have hk7 : ((kd : Int) == 7) = false := by simp; omega
              have hmay : mayB A F z1 = (an2 && decide (an1 = 0)) := by unfold mayB; rw [HAN.out]
              cases an2 with
              | false =>
                have hm0 : mayB A F z1 = false := by rw [hmay]; rfl
                have HM := Lib.hid hm0
                have HBG := Lib.hid (begF_no hm0)
                clear hmay hm0
                go_wp2_with fail
                refine (l_begin l A F z1 _ h5.lg).mono ?_
                rintro e w6 ⟨rfl, hl6, g6⟩
                rw [HBG.out] at hl6
                rw [HM.out]
                have h6 := h5.led g6 hl6
                clear y0 y1 y2 y3
                go_wp2_with fail
                go_meet
                exact ⟨_, _, h6.more (by omega)⟩
              | true =>
                by_cases ha0 : an1 = 0
                · subst ha0
                  have hm1 : mayB A F z1 = true := by rw [hmay]; rfl
                  obtain ⟨f, o, r, b, hf, hf64, hF, hb, _, _⟩ := ask_free h5.lg.ab hm1
                  have HM := Lib.hid hm1
                  have HBG := Lib.hid (begF_yes hm1 hF)
                  have HZ := Lib.hid hf
                  have HF := Lib.hid hF
                  clear hmay hm1 hF hf
                  go_wp2_with fail
                  refine (l_begin l A F z1 _ h5.lg).mono ?_
                  rintro e w6 ⟨rfl, hl6, g6⟩
                  rw [HM.out]
                  have h6 := h5.led g6 hl6
                  have HQ6 := Lib.hid (row_kept (show w5.heap[q]? = some (.cells [Value.int .i64 z0, .int .i64 z1, .int .i64 z2, .int .i64 z3].toArray 42 (0, 0)) from HQ5.out) g6 (by omega))
                  clear y0 y1 y2 y3
                  have v1 := row_cell HQ6.out (j := 1) rfl
                  go_wp2_with fail
                  rw [HZ.out]
                  refine (m_turn _ m bl bf (i * 2) A F f o r b (b + 1) 1 h6.md hK2 (by rw [← HZ.out]; exact HF.out) (by omega) (by omega)).mono ?_
                  rintro e w7 ⟨rfl, hm7, g7⟩
                  have h7 := h6.modF g7 hm7
                  rw [← HZ.out, ← HBG.out] at h7
                  clear v1
                  go_wp2_with fail
                  go_meet
                  exact ⟨_, _, h7.more (by omega)⟩
                · have ha1 : ((an1 : Int) == 0) = false := by simp; omega
                  have hm0 : mayB A F z1 = false := by rw [hmay]; simp [ha0]
                  have HM := Lib.hid hm0
                  have HBG := Lib.hid (begF_no hm0)
                  clear hmay hm0
                  go_wp2_with fail
                  refine (l_begin l A F z1 _ h5.lg).mono ?_
                  rintro e w6 ⟨rfl, hl6, g6⟩
                  rw [HBG.out] at hl6
                  rw [HM.out]
                  have h6 := h5.led g6 hl6
                  clear y0 y1 y2 y3
                  go_wp2_with fail
                  go_meet
                  exact ⟨_, _, h6.more (by omega)⟩
        case rest =>
          as_aux_lemma =>
            clear h5 HQ5 y0 y1 y2 y3 HAN hkd hkd8 wz1 wz2 hlts
            obtain ⟨A', F', hQ⟩ := hcut
            clear A F
            have hkI : (k : Int) ≤ 120 := by have := hk120.out; omega
            go_wp2_with fail
            go_loopg [152] k (fun gk vi wr => ∃ j : Nat, vi = .int .i64 (j : Int) ∧ j + gk = k ∧ Qs w wr l m bl bf ((i + 1) * 2) A' F' A' F')
            case atStart => exact ⟨0, rfl, by omega, hQ⟩
            case round =>
              clear hQ
              obtain ⟨j, rfl, hjk, hQ⟩ := hrel
              obtain ⟨A, hA'⟩ : ∃ A, A = A' := ⟨_, rfl⟩
              obtain ⟨F, hF'⟩ : ∃ F, F = F' := ⟨_, rfl⟩
              subst hA' hF'
              have HJK := Lib.hid hjk
              by_cases hj : j < k
              · obtain ⟨ad', ha', hab', hcell⟩ := (L.below hQ.bel (Nat.le_refl _)).num (j := j * 4) (by omega)
                injection ha' with ha'
                subst ha'
                have hji : (j : Int) < (k : Int) := by omega
                have x0 := hcell (j * 4) (by omega)
                have x1 := cell_in (c := 0) (hcell (j * 4 + 1) (by omega))
                have x2 := cell_in (c := 1) (hcell (j * 4 + 2) (by omega))
                have x3 := cell_in (c := 2) (hcell (j * 4 + 3) (by omega))
                rw [Nat.zero_add] at x1
                rw [show (1 : Nat) + 1 = 2 from rfl] at x2
                rw [show (2 : Nat) + 1 = 3 from rfl] at x3
                have wz1 := wf (j * 4 + 1) (by omega)
                have wz2 := wf (j * 4 + 2) (by omega)
                obtain ⟨z0, hz0⟩ : ∃ z, Z (j * 4) = z := ⟨_, rfl⟩
                obtain ⟨z1, hz1⟩ : ∃ z, Z (j * 4 + 1) = z := ⟨_, rfl⟩
                obtain ⟨z2, hz2⟩ : ∃ z, Z (j * 4 + 2) = z := ⟨_, rfl⟩
                obtain ⟨z3, hz3⟩ : ∃ z, Z (j * 4 + 3) = z := ⟨_, rfl⟩
                rw [hz0] at x0
                rw [hz1] at x1 wz1
                rw [hz2] at x2 wz2
                rw [hz3] at x3
                clear hcell hjk hz0 hz1 hz2 hz3
                have h5 := hQ.alloc (.cells #[.int .i64 z0, .int .i64 z1, .int .i64 z2, .int .i64 z3] 42)
                have HQ5 := Lib.hid (heap_alloc_new wr (.cells #[.int .i64 z0, .int .i64 z1, .int .i64 z2, .int .i64 z3] 42))
                go_upto_region 37 with (fail)
                obtain ⟨q, hq⟩ : ∃ q, wr.heap.size = q := ⟨_, rfl⟩
                rw [hq] at HQ5
                rw [hq]
                clear hq x0 x1 x2 x3 hQ
                generalize wr.alloc (.cells #[.int .i64 z0, .int .i64 z1, .int .i64 z2, .int .i64 z3] 42) = w5 at h5 HQ5 ⊢
                have y1 : w5.cell? ⟨q, 1, none⟩ = some (.int .i64 z1) := row_cell (show w5.heap[q]? = some (.cells [Value.int .i64 z0, .int .i64 z1, .int .i64 z2, .int .i64 z3].toArray 42 (0, 0)) from HQ5.out) (j := 1) rfl
                obtain ⟨o, r, b, hv⟩ : ∃ o r b, (F z1).getD (0, 0, 0) = (o, r, b) := ⟨_, _, _, rfl⟩
                have hbb : busy F z1 = b := by unfold busy; rw [hv]
                have HV := Lib.hid hv
                have HBB := Lib.hid hbb
                clear hv hbb
                have hSL : ∀ w', Md w' m bl bf ((i + 1) * 2) A F → (Instr.lookup 53 (.map (some bf)) (.int .i64 z1) false).run Try.prog w' = .ok (.agg #[.int .i64 (o : Int), .int .i64 (r : Int), .int .i64 (b : Int)]) w' := fun w' h => by rw [h.runF wz1, HV.out]
                have HS0 := Lib.hid (show w5.drew.cell? ⟨m, 1, none⟩ = some (.map (some bf)) ∧ w5.drew.cell? ⟨q, 1, none⟩ = some (.int .i64 z1) ∧ (Instr.lookup 53 (.map (some bf)) (.int .i64 z1) false).run Try.prog w5.drew = .ok (.agg #[.int .i64 (o : Int), .int .i64 (r : Int), .int .i64 (b : Int)]) w5.drew from ⟨h5.md.c1, y1, hSL w5.drew (h5.md.drewN 1)⟩)
                have HSA := Lib.hid (fun ob => show (w5.alloc ob).drew.cell? ⟨m, 1, none⟩ = some (.map (some bf)) ∧ (w5.alloc ob).drew.cell? ⟨q, 1, none⟩ = some (.int .i64 z1) ∧ (Instr.lookup 53 (.map (some bf)) (.int .i64 z1) false).run Try.prog (w5.alloc ob).drew = .ok (.agg #[.int .i64 (o : Int), .int .i64 (r : Int), .int .i64 (b : Int)]) (w5.alloc ob).drew from ⟨(h5.alloc ob).md.c1, (Only.of_below (S := fun _ => False) ((Below.refl w5.heap.size w5).alloc (Nat.le_refl _) ob)).cell (fun q => q) y1, hSL _ ((h5.alloc ob).md.drewN 1)⟩)
                have h6 : Qs w (w5.alloc (.cells #[.int .i64 (o : Int), .int .i64 (r : Int), .int .i64 (b : Int)] 50)).drew l m bl bf ((i + 1) * 2) A F A F := (h5.alloc (.cells #[.int .i64 (o : Int), .int .i64 (r : Int), .int .i64 (b : Int)] 50)).drewN 1
                have HB6 := Lib.hid (show (w5.alloc (.cells #[.int .i64 (o : Int), .int .i64 (r : Int), .int .i64 (b : Int)] 50)).drew.heap[w5.heap.size]? = some (.cells [Value.int .i64 (o : Int), .int .i64 (r : Int), .int .i64 (b : Int)].toArray 50 (0, 0)) from heap_alloc_new w5 (.cells #[.int .i64 (o : Int), .int .i64 (r : Int), .int .i64 (b : Int)] 50))
                have HQ6 := Lib.hid (show (w5.alloc (.cells #[.int .i64 (o : Int), .int .i64 (r : Int), .int .i64 (b : Int)] 50)).drew.heap[q]? = some (.cells [Value.int .i64 z0, .int .i64 z1, .int .i64 z2, .int .i64 z3].toArray 42 (0, 0)) from (Only.of_below (S := fun _ => False) ((Below.refl w5.heap.size w5).alloc (Nat.le_refl _) (.cells #[.int .i64 (o : Int), .int .i64 (r : Int), .int .i64 (b : Int)] 50))).blk (fun q => q) HQ5.out)
                clear hSL y1
                go_cut [16] (fun v16 wc => ∃ g, v16 = .pointer (some ⟨g, 0, none⟩) ∧ Qs w wc l m bl bf ((i + 1) * 2) A F A F ∧ Hid (wc.heap[g]? = some (.cells [Value.int .i64 (o : Int), .int .i64 (r : Int), .int .i64 (b : Int)].toArray 50 (0, 0))) ∧ Hid (wc.heap[q]? = some (.cells [Value.int .i64 z0, .int .i64 z1, .int .i64 z2, .int .i64 z3].toArray 42 (0, 0))))
                case first =>
                  go_region_held3 (fun w' => w'.cell? ⟨m, 1, none⟩ = some (.map (some bf)) ∧ w'.cell? ⟨q, 1, none⟩ = some (.int .i64 z1) ∧ (Instr.lookup 53 (.map (some bf)) (.int .i64 z1) false).run Try.prog w' = .ok (.agg #[.int .i64 (o : Int), .int .i64 (r : Int), .int .i64 (b : Int)]) w') (first | exact HS0.out | exact HSA.out _ | assumption) (fail)
                  all_goals
                    (go_wp2_with fail
                     go_meet
                     exact ⟨_, rfl, h6, HB6, HQ6⟩)
                case rest =>
                  clear h5 HQ5 HS0 HSA h6 HB6 HQ6
                  obtain ⟨g, rfl, h7, HB7, HQ7⟩ := hcut
                  generalize wc = w7 at h7 HB7 HQ7 ⊢
                  cases hAz : A z2 with
                  | none =>
                    as_aux_lemma =>
                      have HAZ := Lib.hid hAz
                      have c0 := h7.md.c0
                      have hrun : ∀ n, (Instr.lookup 52 (.map (some bl)) (.int .i64 z2) true).run Try.prog (w7.drewN n) = .ok (.tuple #[.int .i64 0, .bool false]) (w7.drewN n) := fun n => by rw [(h7.md.drewN n).okA wz2, HAZ.out]; rfl
                      have hrun1 : (Instr.lookup 52 (.map (some bl)) (.int .i64 z2) true).run Try.prog w7.drew = .ok (.tuple #[.int .i64 0, .bool false]) w7.drew := hrun 1
                      have v2 := row_cell HQ7.out (j := 2) rfl
                      clear hAz
                      go_upto_region 38 with (fail)
                      go_quiet (fail)
                      have h8 := h7.drewN nq
                      have HQ8 : Hid ((w7.drewN nq).heap[q]? = some (.cells [Value.int .i64 z0, .int .i64 z1, .int .i64 z2, .int .i64 z3].toArray 42 (0, 0))) := HQ7
                      have HB8 : Hid ((w7.drewN nq).heap[g]? = some (.cells [Value.int .i64 (o : Int), .int .i64 (r : Int), .int .i64 (b : Int)].toArray 50 (0, 0))) := HB7
                      clear hrun hrun1 c0 v2 h7 HQ7 HB7
                      generalize w7.drewN nq = w7' at h8 HQ8 HB8 ⊢
                      have v2 := row_cell HQ8.out (j := 2) rfl
                      go_wp2_with fail
                      refine (m_sum _ m bl bf ((i + 1) * 2) A F z2 h8.md).mono ?_
                      rintro e w8 ⟨rfl, b8⟩
                      have h8' := h8.below b8
                      have HQ8' := Lib.hid ((Only.of_below (S := fun _ => False) b8).blk (fun q => q) HQ8.out)
                      have HB8' := Lib.hid ((Only.of_below (S := fun _ => False) b8).blk (fun q => q) HB8.out)
                      clear v2 h8 HQ8 HB8 b8
                      have h8 := h8'
                      have HQ8 := HQ8'
                      have HB8 := HB8'
                      clear h8' HQ8' HB8'
                      have v2 := row_cell HQ8.out (j := 2) rfl
                      go_wp2_with fail
                      refine (l_acc0 l A F z2 _ h8.lg HAZ.out).mono ?_
                      rintro e w9 ⟨rfl, rfl⟩
                      have h9 := h8
                      have HQ9 := HQ8
                      have HB9 := HB8
                      clear v2 h8 HQ8 HB8
                      have v1 : w8.cell? ⟨q, 1, none⟩ = some (.int .i64 z1) := row_cell HQ9.out (j := 1) rfl
                      have v3 : w8.cell? ⟨g, 2, none⟩ = some (.int .i64 (b : Int)) := row_cell HB9.out (j := 2) rfl
                      have hbq := Lib.hid (fun n => show Calls Try.prog 33 #[.pointer (some ⟨l, 0, none⟩), .int .i64 z1] (w8.drewN n) fun e w' => e = .returned (.int .i64 (b : Int)) ∧ (w8.drewN n) = w' from by have := l_busy l A F z1 _ (h9.lg.drewN n); rw [HBB.out] at this; exact this)
                      have d1 : w8.drew.cell? ⟨q, 1, none⟩ = some (.int .i64 z1) := v1
                      have d3 : w8.drew.cell? ⟨g, 2, none⟩ = some (.int .i64 (b : Int)) := v3
                      go_upto_region 41 with (fail)
                      go_quiet ((first | (go_at_call 33; exact Calls.quiet_of_same (quiet_eq (hbq.out _)))))
                      clear v1 v3 d1 d3 hbq
                      go_wp2_with fail
                      go_roundg (k - j - 1)
                      case measure => have := HJK.out; omega
                      case rel => exact ⟨j + 1, by go_num, by have := HJK.out; omega, h9.drewN _⟩
                  | some lim =>
                    as_aux_lemma =>
                      have HAZ := Lib.hid hAz
                      have c0 := h7.md.c0
                      have hrun : ∀ n, (Instr.lookup 52 (.map (some bl)) (.int .i64 z2) true).run Try.prog (w7.drewN n) = .ok (.tuple #[.int .i64 (lim : Int), .bool true]) (w7.drewN n) := fun n => by rw [(h7.md.drewN n).okA wz2, HAZ.out]; rfl
                      have hrun1 : (Instr.lookup 52 (.map (some bl)) (.int .i64 z2) true).run Try.prog w7.drew = .ok (.tuple #[.int .i64 (lim : Int), .bool true]) w7.drew := hrun 1
                      have v2 := row_cell HQ7.out (j := 2) rfl
                      clear hAz
                      go_upto_region 38 with (fail)
                      go_quiet (fail)
                      have h8 := h7.drewN nq
                      have HQ8 : Hid ((w7.drewN nq).heap[q]? = some (.cells [Value.int .i64 z0, .int .i64 z1, .int .i64 z2, .int .i64 z3].toArray 42 (0, 0))) := HQ7
                      have HB8 : Hid ((w7.drewN nq).heap[g]? = some (.cells [Value.int .i64 (o : Int), .int .i64 (r : Int), .int .i64 (b : Int)].toArray 50 (0, 0))) := HB7
                      clear hrun hrun1 c0 v2 h7 HQ7 HB7
                      generalize w7.drewN nq = w7' at h8 HQ8 HB8 ⊢
                      have v2 := row_cell HQ8.out (j := 2) rfl
                      go_wp2_with fail
                      refine (m_sum _ m bl bf ((i + 1) * 2) A F z2 h8.md).mono ?_
                      rintro e w8 ⟨rfl, b8⟩
                      have h8' := h8.below b8
                      have HQ8' := Lib.hid ((Only.of_below (S := fun _ => False) b8).blk (fun q => q) HQ8.out)
                      have HB8' := Lib.hid ((Only.of_below (S := fun _ => False) b8).blk (fun q => q) HB8.out)
                      clear v2 h8 HQ8 HB8 b8
                      have h8 := h8'
                      have HQ8 := HQ8'
                      have HB8 := HB8'
                      clear h8' HQ8' HB8'
                      have v2 := row_cell HQ8.out (j := 2) rfl
                      go_wp2_with fail
                      refine (l_acc l A F z2 lim _ h8.lg HAZ.out).mono ?_
                      rintro e w9 ⟨rfl, b9⟩
                      have h9 := h8.below b9
                      have HQ9 := Lib.hid ((Only.of_below (S := fun _ => False) b9).blk (fun q => q) HQ8.out)
                      have HB9 := Lib.hid ((Only.of_below (S := fun _ => False) b9).blk (fun q => q) HB8.out)
                      clear v2 h8 HQ8 HB8
                      have v1 : w9.cell? ⟨q, 1, none⟩ = some (.int .i64 z1) := row_cell HQ9.out (j := 1) rfl
                      have v3 : w9.cell? ⟨g, 2, none⟩ = some (.int .i64 (b : Int)) := row_cell HB9.out (j := 2) rfl
                      have hbq := Lib.hid (fun n => show Calls Try.prog 33 #[.pointer (some ⟨l, 0, none⟩), .int .i64 z1] (w9.drewN n) fun e w' => e = .returned (.int .i64 (b : Int)) ∧ (w9.drewN n) = w' from by have := l_busy l A F z1 _ (h9.lg.drewN n); rw [HBB.out] at this; exact this)
                      have d1 : w9.drew.cell? ⟨q, 1, none⟩ = some (.int .i64 z1) := v1
                      have d3 : w9.drew.cell? ⟨g, 2, none⟩ = some (.int .i64 (b : Int)) := v3
                      go_upto_region 41 with (fail)
                      go_quiet ((first | (go_at_call 33; exact Calls.quiet_of_same (quiet_eq (hbq.out _)))))
                      clear v1 v3 d1 d3 hbq
                      go_wp2_with fail
                      go_roundg (k - j - 1)
                      case measure => have := HJK.out; omega
                      case rel => exact ⟨j + 1, by go_num, by have := HJK.out; omega, h9.drewN _⟩
              · clear hjk
                go_wp2_with fail
                go_roundg (k - i - 1)
                case measure => have := HIK.out; omega
                case rel => exact ⟨i + 1, A, F, by go_num, by have := HIK.out; omega, hQ⟩
      · clear hik
        go_wp2_with fail
        go_ret
        exact ⟨rfl, hQ.bel⟩

end Go.Proofs.Ytancebpkiioaiaa.W
