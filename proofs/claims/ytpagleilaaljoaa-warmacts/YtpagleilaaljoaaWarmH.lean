/- The law WarmActs: which one its page says is worth least. -/
import Derived.Test.YtpagleilaaljoaaWarmG
namespace Go.Proofs.Ytpagleilaaljoaa.W.HR
open Go.RowKit
open Go.Proofs.Ytpagleilaaljoaa.R (order_any cmpI cmp_lt cmp_gt cmp_eq U64 Rat)
set_option linter.unusedVariables false

theorem zeroR (w : World) : (zeroValue 53).run Try.prog w = .ok (.agg #[.int .u64 0, .int .u64 0]) w := by kernel_rfl
/-- What the page's map holds of each: what it is worth. -/
abbrev MR (A : Int → Option V) : Int → Option Value := fun z => (A z).map (fun v => Value.agg #[.int .u64 (v.1 : Int), .int .u64 (v.2.1 : Int)])
theorem MR_set (A : Int → Option V) (k : Int) (v : V) : MR (updZ A k (some v)) = updZ (MR A) k (some (.agg #[.int .u64 (v.1 : Int), .int .u64 (v.2.1 : Int)])) := by funext z; unfold MR updZ; split <;> rfl
theorem MR_del (A : Int → Option V) (k : Int) : MR (updZ A k none) = updZ (MR A) k none := by funext z; unfold MR updZ; split <;> rfl
theorem MR_some {A : Int → Option V} {z : Int} {v : Value} (h : MR A z = some v) : ∃ u, A z = some u ∧ v = .agg #[.int .u64 (u.1 : Int), .int .u64 (u.2.1 : Int)] := by
  have h' : (A z).map (fun v => Value.agg #[.int .u64 (v.1 : Int), .int .u64 (v.2.1 : Int)]) = some v := h
  cases e : A z with
  | none => rw [e] at h'; cases h'
  | some u => rw [e] at h'; cases h'; exact ⟨u, rfl, rfl⟩

/-- The best so far, of those that are no longer to come. -/
def Best (A : Int → Option V) (left : Int → Bool) (best : Int) : Prop :=
  (best = -1 ∧ ∀ z v, A z = some v → left z = true) ∨ ∃ v, A best = some v ∧ 0 ≤ best ∧ ∀ z v', A z = some v' → left z = false → lt v' v = false

set_option maxRecDepth 100000 in
set_option maxHeartbeats 3200000 in
theorem least_any (w : World) (mb n : Nat) (A : Int → Option V) (h : Mp Try.prog 3 w mb (MR A) n) (hA : ∀ z v, A z = some v → v.2.2 = z ∧ ok v ∧ 0 ≤ z ∧ z < 16) :
    Calls Try.prog 24 #[.map (some mb)] w fun e w' => ∃ best : Int, e = .returned (.int .i64 best) ∧ Best A (fun _ => false) best ∧ Below w.heap.size w w' := by
  obtain ⟨MM, hMM⟩ : ∃ M, M = MR A := ⟨_, rfl⟩
  have hm : Mp Try.prog 3 w mb MM n := by rw [hMM]; exact h
  have HMM := Lib.hid hMM
  have HA := Lib.hid hA
  clear hMM hA h
  go_enter Try.func24, Try.ntmps24
  go_upto_region 3 with (first
    | (at_range; refine wpList_rng rfl (.tmp 7) 48 rfl 3 53 Try.underlying3 Try.underlying48 mb _ n rfl hm ?_; intro w4 hrg4 hg4))
  have b4 : Below w.heap.size w w4 := (Only.grownN (S := fun _ => False) hg4).below (fun _ q => q.elim) (Nat.le_refl _)
  obtain ⟨rb, hrb⟩ : ∃ rb, w.heap.size = rb := ⟨_, rfl⟩
  have hrbw : w.heap.size ≤ rb := by omega
  have hmlt := hm.lt
  have hnb : rb ≠ mb := by omega
  rw [hrb] at hrg4
  rw [hrb]
  have b4' : Below w.heap.size w w4 := b4
  clear hm hg4 b4 hrb
  go_frame
  go_loopg [3] (cntB (fun x => (MM x).isSome) 16) (fun gk vb wr => ∃ (left : Int → Bool) (best : Int), vb = .int .i64 best ∧ Hid (gk = cntB left 16) ∧ Rg Try.prog 3 wr mb rb MM n left ∧ Hid (∀ z, left z = true → 0 ≤ z ∧ z < 16) ∧ Hid (Best A left best) ∧ Below w.heap.size w wr)
  case atStart =>
    refine ⟨_, -1, rfl, Lib.hid rfl, hrg4, Lib.hid (fun z q => ?_), Lib.hid (Or.inl ⟨rfl, fun z v q => ?_⟩), b4'⟩
    · have q' : (MM z).isSome = true := q
      obtain ⟨v, hv⟩ := Option.isSome_iff_exists.1 q'
      rw [HMM.out] at hv
      obtain ⟨u, hu, _⟩ := MR_some hv
      exact (HA.out z u hu).2.2
    · show (MM z).isSome = true
      rw [HMM.out]
      show ((A z).map _).isSome = true
      rw [q]; rfl
  case round =>
    clear hrg4 b4'
    obtain ⟨left, best, rfl, HG, hrg, HLF, HB, bz⟩ := hrel
    go_wp2_with (at_next; refine wpList_nxt rfl (.tmp 8) rfl 3 Try.underlying3 mb rb _ n left rfl hrg ?_ ?_)
    · intro hdone
      go_wp2_with fail
      go_ret
      refine ⟨best, rfl, ?_, bz⟩
      have hall : ∀ z v, A z = some v → left z = false := fun z v q => hdone z (by have := (HA.out z v q).2.2; exact Go.WalkArith.wf_i64 ⟨by omega, by omega⟩)
      rcases HB.out with ⟨h1, h2⟩ | ⟨v, h1, h2, h3⟩
      · refine Or.inl ⟨h1, fun z v q => ?_⟩
        have := h2 z v q; rw [hall z v q] at this; cases this
      · exact Or.inr ⟨v, h1, h2, fun z v' q _ => h3 z v' q (hall z v' q)⟩
    · intro x v w5 hwx hlx hMx hrg5 hg5 hen
      rw [HMM.out] at hMx
      obtain ⟨⟨p, q, dx⟩, hAx, rfl⟩ := MR_some hMx
      obtain ⟨hdx, ⟨hp64, hq0, hq64, _⟩, hx0, hx16⟩ := HA.out x _ hAx
      have hdx' : dx = x := hdx
      subst hdx'
      obtain ⟨xn, hxn⟩ : ∃ xn : Nat, dx = (xn : Int) := ⟨dx.toNat, by omega⟩
      have htake := cntB_take (f := left) (x := xn) (by rw [← hxn]; exact hlx) (n := 16) (by omega)
      rw [← hxn] at htake
      obtain ⟨g1, hg1⟩ : ∃ g1, gk = g1 + 1 := ⟨gk - 1, by have := HG.out; omega⟩
      have hO5 : Only wr w5 (fun j => j = rb) := Only.grown hg5 (Or.inl rfl)
      have bb5 := bz.trans (hO5.below (fun j e => by rw [e]; exact hrbw) bz.size)
      have HT := Lib.hid htake
      have HG1 := Lib.hid hg1
      have HAX := Lib.hid hAx
      have hg1' : g1 = cntB (fun z => left z && !(z == dx)) 16 := by have a1 := HT.out; have a2 := HG.out; have a3 := HG1.out; omega
      have HG1' := Lib.hid hg1'
      have hLF' : ∀ z, (fun z => left z && !(z == dx)) z = true → 0 ≤ z ∧ z < 16 := fun z hq => by
        have hq' : (left z && !(z == dx)) = true := hq
        simp at hq'; exact HLF.out z hq'.1
      have HLF' := Lib.hid hLF'
      clear htake hg1 hxn hlx hMx hg1' hLF' hrg hAx
      have hb6 : Below w5.heap.size w5 (w5.alloc (.cells #[.int .u64 (p : Int), .int .u64 (q : Int)] 53)) := (Below.refl _ _).alloc (Nat.le_refl _) _
      have hrg6 := hrg5.kept (Only.of_below (S := fun _ => False) hb6) (fun q => q) (fun q => q)
      have bb6 := bb5.trans (hb6.mono bb5.size)
      rcases HB.out with ⟨hb1, hb2⟩ | ⟨⟨pb, qb, db⟩, hb1, hb2, hb3⟩
      · subst hb1
        clear hb6
        go_wp2_with fail
        go_roundg g1
        case measure => have := HG1.out; omega
        case rel =>
          refine ⟨_, dx, rfl, HG1', hrg6, HLF', Lib.hid (Or.inr ⟨_, HAX.out, hx0, fun z v' hz hl => ?_⟩), bb6⟩
          have hl' : (left z && !(z == dx)) = false := hl
          rw [hb2 z v' hz] at hl'
          simp at hl'
          subst hl'
          rw [HAX.out] at hz; cases hz
          exact odr.irr _ ⟨hp64, hq0, hq64, hwx⟩
      · obtain ⟨hdb, ⟨hpb64, hqb0, hqb64, _⟩, hbb0, hbb16⟩ := HA.out best _ hb1
        have hdb' : db = best := hdb
        subst hdb'
        have hbw : (KL db).wf = true := Go.WalkArith.wf_i64 ⟨by omega, by omega⟩
        have hMb : MM db = some (.agg #[.int .u64 (pb : Int), .int .u64 (qb : Int)]) := by
          rw [HMM.out]
          show (A db).map _ = _
          rw [hb1]; rfl
        have HMB := Lib.hid hMb
        have HB1 := Lib.hid hb1
        have HB3 := Lib.hid hb3
        have hbd : decide (db < (0 : Int)) = false := by simp; omega
        have hq0n : 0 < q := hq0
        have hqb0n : 0 < qb := hqb0
        have hord := fun w => order_any (p : Int) (q : Int) (pb : Int) (qb : Int) (u64n hp64) (u64n hq64) (u64n hpb64) (u64n hqb64) (by omega) (by omega) w
        clear hMb hb1 hb3 hb6 hrg5
        have okx : ok (p, q, dx) := ⟨hp64, hq0, hq64, hwx⟩
        have okb : ok (pb, qb, db) := ⟨hpb64, hqb0, hqb64, hbw⟩
        -- what the round decides
        have step : ∀ (C : Int), cmpI ((p : Int) * (qb : Int)) ((pb : Int) * (q : Int)) = C → (C < 0 ∨ (C = 0 ∧ dx < db)) ∧ lt (p, q, dx) (pb, qb, db) = true ∨ (¬ (C < 0) ∧ (C = 0 → ¬ dx < db)) ∧ lt (p, q, dx) (pb, qb, db) = false := by
          intro C hC
          rcases Int.lt_trichotomy ((p : Int) * (qb : Int)) ((pb : Int) * (q : Int)) with c | c | c
          · rw [cmp_lt c] at hC; subst hC; exact Or.inl ⟨Or.inl (by decide), lt_yes c⟩
          · rw [c, cmp_eq] at hC; subst hC
            by_cases e : dx < db
            · exact Or.inl ⟨Or.inr ⟨rfl, e⟩, by rw [lt_eq c]; exact decide_eq_true e⟩
            · exact Or.inr ⟨⟨by decide, fun _ => e⟩, by rw [lt_eq c]; exact decide_eq_false e⟩
          · rw [cmp_gt c] at hC; subst hC; exact Or.inr ⟨⟨by decide, fun q => by cases q⟩, lt_no c⟩
        obtain ⟨C, hC⟩ : ∃ C, cmpI ((p : Int) * (qb : Int)) ((pb : Int) * (q : Int)) = C := ⟨_, rfl⟩
        have hst := step C hC
        rw [hC] at hord
        clear hC step
        have better : lt (p, q, dx) (pb, qb, db) = true → Best A (fun z => left z && !(z == dx)) dx := by
          intro hlt
          refine Or.inr ⟨_, HAX.out, hx0, fun z v' hz hl => ?_⟩
          have hl' : (left z && !(z == dx)) = false := hl
          by_cases e : z = dx
          · subst e; rw [HAX.out] at hz; cases hz; exact odr.irr _ okx
          · have hlz : left z = false := by simpa [e] using hl'
            exact odr.ntr _ _ _ (HA.out z v' hz).2.1 okb okx (HB3.out z v' hz hlz) (odr.asym _ _ okx okb hlt)
        have worse : lt (p, q, dx) (pb, qb, db) = false → Best A (fun z => left z && !(z == dx)) db := by
          intro hlt
          refine Or.inr ⟨_, HB1.out, hbb0, fun z v' hz hl => ?_⟩
          have hl' : (left z && !(z == dx)) = false := hl
          by_cases e : z = dx
          · subst e; rw [HAX.out] at hz; cases hz; exact hlt
          · have hlz : left z = false := by simpa [e] using hl'
            exact HB3.out z v' hz hlz
        have HBET := Lib.hid better
        have HWOR := Lib.hid worse
        clear better worse
        have LKP := hrg6.mp
        have ways : (decide (C < 0) = true ∧ lt (p, q, dx) (pb, qb, db) = true) ∨ (C = 0 ∧ decide (dx < db) = true ∧ lt (p, q, dx) (pb, qb, db) = true) ∨ (C = 0 ∧ decide (dx < db) = false ∧ lt (p, q, dx) (pb, qb, db) = false) ∨ (decide (C < 0) = false ∧ (C == 0) = false ∧ lt (p, q, dx) (pb, qb, db) = false) := by
          rcases hst with ⟨h1 | ⟨h1, h2⟩, h3⟩ | ⟨⟨h1, h2⟩, h3⟩
          · exact Or.inl ⟨decide_eq_true h1, h3⟩
          · exact Or.inr (Or.inl ⟨h1, decide_eq_true h2, h3⟩)
          · by_cases e : C = 0
            · exact Or.inr (Or.inr (Or.inl ⟨e, decide_eq_false (h2 e), h3⟩))
            · exact Or.inr (Or.inr (Or.inr ⟨decide_eq_false h1, by simpa using e, h3⟩))
        clear hst
        rcases ways with ⟨c1, hlt⟩ | ⟨rfl, c2, hlt⟩ | ⟨rfl, c2, hlt⟩ | ⟨c1, c2, hlt⟩
        all_goals
          (have HLT := Lib.hid hlt
           clear hlt
           go_wp2_with (at_lookup; refine wpList_mp_at rfl (.tmp 18) (.tmp 19) 48 rfl 3 53 Try.underlying3 Try.underlying48 (zeroR _) mb _ n rfl LKP db rfl hbw (some (.agg #[.int .u64 (pb : Int), .int .u64 (qb : Int)])) HMB.out ?_)
           refine (hord _).mono ?_
           rintro e w7 ⟨rfl, y1, y2, hw7⟩
           have b7 := below_2 hw7
           have hrg7 := hrg6.kept (Only.of_below (S := fun _ => False) b7) (fun q => q) (fun q => q)
           have bb7 := bb6.trans (b7.mono bb6.size)
           clear hw7
           go_wp2_with fail
           go_roundg g1
           case measure => have := HG1.out; omega
           case rel =>
             first
               | exact ⟨_, dx, rfl, HG1', hrg7, HLF', Lib.hid (HBET.out HLT.out), bb7⟩
               | exact ⟨_, db, rfl, HG1', hrg7, HLF', Lib.hid (HWOR.out HLT.out), bb7⟩)
end Go.Proofs.Ytpagleilaaljoaa.W.HR
