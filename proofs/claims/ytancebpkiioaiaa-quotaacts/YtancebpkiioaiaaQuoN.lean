/- The page's model of package quota: maps of limits and functions; New, Sum. -/
import Derived.Test.YtancebpkiioaiaaQuoH
import Derived.Test.YtancebpkiioaiaaRng
namespace Go.Proofs.Ytancebpkiioaiaa.W
open Go.RowKit Go.Maps Go.ChangeMaps Go.MapKept

theorem Mp.drewN {P : Program} {t : TypeId} {w : World} {b : Nat} {M : Int → Option Value} {c : Nat} (h : Mp P t w b M c) (n : Nat) : Mp P t (w.drewN n) b M c := h
/-- A lookup as an equation. -/
theorem Mp.run_at {P : Program} {w : World} {b : Nat} {M : Int → Option Value} {c : Nat} {k e t : TypeId} (h : Mp P k w b M c) (hk : P.underlying k = some (.int .i64)) (ht : P.underlying t = some (.map k e)) {z : Value} (hz : (zeroValue e).run P w = .ok z w) {n : Int} (hw : (KL n).wf = true) :
    (Instr.lookup t (.map (some b)) (.int .i64 n) false).run P w = .ok ((M n).getD z) w := by
  obtain ⟨D, h1, h2, h3⟩ := h
  obtain ⟨v, ps, hrun, hv⟩ := h1.lookup (int_keyed hk) ht hz (zd := .held z) (zp := []) rfl (keyOf_int_mk hk hw)
  obtain ⟨h4, h5⟩ := h3 n hw
  have : v = (M n).getD z := by
    unfold RV at hv
    cases hr : M n with
    | none =>
      rw [hr] at h4
      rw [Maps.atKey_of_not_has h4] at hv
      simp at hv
      exact hv.1
    | some u =>
      rw [h5 u hr] at hv
      simp at hv
      exact hv.1
  rw [← this]; exact hrun

abbrev MA (A : Int → Option Nat) : Int → Option Value := fun z => (A z).map (fun n : Nat => Value.int .i64 (n : Int))
abbrev FnV (v : Fn) : Value := .agg #[.int .i64 (v.1 : Int), .int .i64 (v.2.1 : Int), .int .i64 (v.2.2 : Int)]
abbrev MF (F : Int → Option Fn) : Int → Option Value := fun z => (F z).map FnV
theorem MA_set (A : Int → Option Nat) (k : Int) (n : Nat) : MA (updZ A k (some n)) = updZ (MA A) k (some (.int .i64 (n : Int))) := by funext z; unfold MA updZ; split <;> rfl
theorem MF_set (F : Int → Option Fn) (k : Int) (v : Fn) : MF (updZ F k (some v)) = updZ (MF F) k (some (FnV v)) := by funext z; unfold MF updZ; split <;> rfl
theorem zeroF (w : World) : (zeroValue 50).run Try.prog w = .ok (FnV (0, 0, 0)) w := by kernel_rfl
theorem zeroN (w : World) : (zeroValue 3).run Try.prog w = .ok (.int .i64 0) w := by kernel_rfl

/-- A model: its block, and its two maps. -/
structure Md (w : World) (m bl bf K : Nat) (A : Int → Option Nat) (F : Int → Option Fn) : Prop where
  ab : Ab A F
  row : w.heap[m]? = some (.cells [Value.map (some bl), .map (some bf)].toArray 55 (0, 0))
  la : ∃ c, c ≤ K ∧ Mp Try.prog 3 w bl (MA A) c
  lf : ∃ c, c ≤ K ∧ Mp Try.prog 3 w bf (MF F) c
  n1 : m ≠ bl
  n2 : m ≠ bf
  n3 : bl ≠ bf
theorem Md.lt {w : World} {m bl bf K : Nat} {A : Int → Option Nat} {F : Int → Option Fn} (h : Md w m bl bf K A F) : m < w.heap.size ∧ bl < w.heap.size ∧ bf < w.heap.size := by
  obtain ⟨_, _, h1⟩ := h.la
  obtain ⟨_, _, h2⟩ := h.lf
  exact ⟨lt_of_row h.row, h1.lt, h2.lt⟩
theorem Md.kept {w w' : World} {m bl bf K : Nat} {A : Int → Option Nat} {F : Int → Option Fn} {S : Nat → Prop} (h : Md w m bl bf K A F) (ho : Only w w' S) (h1 : ¬ S m) (h2 : ¬ S bl) (h3 : ¬ S bf) : Md w' m bl bf K A F := by
  obtain ⟨c1, k1, p1⟩ := h.la
  obtain ⟨c2, k2, p2⟩ := h.lf
  exact ⟨h.ab, ho.blk h1 h.row, ⟨c1, k1, p1.kept ho h2⟩, ⟨c2, k2, p2.kept ho h3⟩, h.n1, h.n2, h.n3⟩
theorem Md.below {w w' : World} {m bl bf K : Nat} {A : Int → Option Nat} {F : Int → Option Fn} (h : Md w m bl bf K A F) (hb : Below w.heap.size w w') : Md w' m bl bf K A F := h.kept (Only.of_below (S := fun _ => False) hb) (fun q => q) (fun q => q) (fun q => q)
theorem Md.off {w w' : World} {m bl bf K l : Nat} {A : Int → Option Nat} {F : Int → Option Fn} (h : Md w m bl bf K A F) (hg : w.grownBy w' (some l)) (h1 : l ≠ m) (h2 : l ≠ bl) (h3 : l ≠ bf) : Md w' m bl bf K A F :=
  h.kept (Only.grown (S := fun j => j = l) hg (Or.inl rfl)) (fun q => h1 q.symm) (fun q => h2 q.symm) (fun q => h3 q.symm)
theorem Md.drewN {w : World} {m bl bf K : Nat} {A : Int → Option Nat} {F : Int → Option Fn} (h : Md w m bl bf K A F) (n : Nat) : Md (w.drewN n) m bl bf K A F := ⟨h.ab, h.row, h.la, h.lf, h.n1, h.n2, h.n3⟩
theorem Md.more {w : World} {m bl bf K K' : Nat} {A : Int → Option Nat} {F : Int → Option Fn} (h : Md w m bl bf K A F) (hk : K ≤ K') : Md w m bl bf K' A F := by
  obtain ⟨c1, k1, p1⟩ := h.la
  obtain ⟨c2, k2, p2⟩ := h.lf
  exact ⟨h.ab, h.row, ⟨c1, by omega, p1⟩, ⟨c2, by omega, p2⟩, h.n1, h.n2, h.n3⟩
theorem Md.c0 {w : World} {m bl bf K : Nat} {A : Int → Option Nat} {F : Int → Option Fn} (h : Md w m bl bf K A F) : w.cell? ⟨m, 0, none⟩ = some (.map (some bl)) := cellL h.row 0 _ rfl
theorem Md.c1 {w : World} {m bl bf K : Nat} {A : Int → Option Nat} {F : Int → Option Fn} (h : Md w m bl bf K A F) : w.cell? ⟨m, 1, none⟩ = some (.map (some bf)) := cellL h.row 1 _ rfl
theorem Md.runA {w : World} {m bl bf K : Nat} {A : Int → Option Nat} {F : Int → Option Fn} (h : Md w m bl bf K A F) {n : Int} (hw : (KL n).wf = true) :
    (Instr.lookup 52 (.map (some bl)) (.int .i64 n) false).run Try.prog w = .ok (.int .i64 (((A n).getD 0 : Nat) : Int)) w := by
  obtain ⟨c, _, p⟩ := h.la
  rw [p.run_at Try.underlying3 Try.underlying52 (zeroN w) hw]
  cases q : A n <;> simp [MA, q]
theorem Md.runF {w : World} {m bl bf K : Nat} {A : Int → Option Nat} {F : Int → Option Fn} (h : Md w m bl bf K A F) {n : Int} (hw : (KL n).wf = true) :
    (Instr.lookup 53 (.map (some bf)) (.int .i64 n) false).run Try.prog w = .ok (FnV ((F n).getD (0, 0, 0))) w := by
  obtain ⟨c, _, p⟩ := h.lf
  rw [p.run_at Try.underlying3 Try.underlying53 (zeroF w) hw]
  cases q : F n <;> simp [MF, q]

set_option maxRecDepth 100000 in
set_option maxHeartbeats 1600000 in
theorem m_new (w : World) : Calls Try.prog 21 #[] w fun e w' => ∃ m bl bf, e = .returned (.pointer (some ⟨m, 0, none⟩)) ∧ Md w' m bl bf 0 noA noF ∧ w.heap.size ≤ m ∧ w.heap.size ≤ bl ∧ w.heap.size ≤ bf ∧ Below w.heap.size w w' := by
  have hmm := @run_makeMap Try.prog
  go_enter Try.func21, Try.ntmps21
  go_wp2
  go_ret
  have b1 : Below w.heap.size w (w.alloc (.map #[] 0)) := (Below.refl _ _).alloc (Nat.le_refl _) _
  have b2 : Below (w.alloc (.map #[] 0)).heap.size (w.alloc (.map #[] 0)) ((w.alloc (.map #[] 0)).alloc (.map #[] 0)) := (Below.refl _ _).alloc (Nat.le_refl _) _
  have s1 : (w.alloc (.map #[] 0)).heap.size = w.heap.size + 1 := World.size_alloc _ _
  have s2 : ((w.alloc (.map #[] 0)).alloc (.map #[] 0)).heap.size = w.heap.size + 1 + 1 := by rw [World.size_alloc, s1]
  have p1 := (Mp.made Try.prog 3 w).kept (Only.of_below (S := fun _ => False) b2) (fun q => q)
  have p2 := Mp.made Try.prog 3 (w.alloc (.map #[] 0))
  have b3 : ∀ ob, Below ((w.alloc (.map #[] 0)).alloc (.map #[] 0)).heap.size ((w.alloc (.map #[] 0)).alloc (.map #[] 0)) (((w.alloc (.map #[] 0)).alloc (.map #[] 0)).alloc ob) := fun ob => (Below.refl _ _).alloc (Nat.le_refl _) _
  rw [s1] at p2
  refine ⟨_, w.heap.size, w.heap.size + 1, rfl, ⟨Ab.zero, ?_, ⟨0, Nat.le_refl _, p1.kept (Only.of_below (S := fun _ => False) (b3 _)) (fun q => q)⟩, ⟨0, Nat.le_refl _, p2.kept (Only.of_below (S := fun _ => False) (b3 _)) (fun q => q)⟩, by omega, by omega, by omega⟩, by omega, by omega, by omega, ?_⟩
  · have := heap_alloc_new ((w.alloc (.map #[] 0)).alloc (.map #[] 0)) (.cells [Value.map (some w.heap.size), .map (some (w.heap.size + 1))].toArray 55)
    rw [s2] at this; exact this
  · exact (b1.trans (b2.mono b1.size)).trans ((b3 _).mono (b1.trans (b2.mono b1.size)).size)

/-- The sum over those that are no longer to come. -/
def goneN (left : Int → Bool) (g : Nat → Nat) : Nat → Nat := fun j => if left (j : Int) then 0 else g j
theorem gone_step {left : Int → Bool} {g : Nat → Nat} {x : Nat} (hx : x < 64) (hl : left (x : Int) = true) : sumN (goneN (fun z => left z && !(z == (x : Int))) g) 64 = sumN (goneN left g) 64 + g x := by
  have h := sumN_upd (g := goneN left g) (g' := goneN (fun z => left z && !(z == (x : Int))) g) (x := x) (fun j hj => by
    unfold goneN
    have : ((j : Int) == (x : Int)) = false := by simp; omega
    simp only [this, Bool.not_false, Bool.and_true]) hx
  have e1 : goneN left g x = 0 := by unfold goneN; rw [hl]; rfl
  have e2 : goneN (fun z => left z && !(z == (x : Int))) g x = g x := by unfold goneN; simp
  rw [e1, e2] at h; omega
theorem gone_all {left : Int → Bool} {g : Nat → Nat} (h : ∀ j : Nat, j < 64 → left (j : Int) = false) : sumN (goneN left g) 64 = sumN g 64 :=
  sumN_ext (fun j hj => by unfold goneN; rw [h j hj]; rfl)
theorem gone_none {left : Int → Bool} {g : Nat → Nat} (h : ∀ j : Nat, j < 64 → left (j : Int) = false → g j = 0) : sumN (goneN left g) 64 = 0 :=
  sumN_zero (fun j hj => by
    unfold goneN
    cases q : left (j : Int) with
    | true => rfl
    | false => exact h j hj q)
theorem gone_le {left : Int → Bool} {g : Nat → Nat} (h : ∀ j, g j ≤ 1000) : sumN (goneN left g) 64 ≤ 64000 :=
  sumN_bound (c := 1000) (fun j => by unfold goneN; have := h j; split <;> omega) 64
theorem MF_some {F : Int → Option Fn} {z : Int} {v : Value} (h : MF F z = some v) : ∃ u, F z = some u ∧ v = FnV u := by
  have h' : (F z).map FnV = some v := h
  cases e : F z with
  | none => rw [e] at h'; cases h'
  | some u => rw [e] at h'; cases h'; exact ⟨u, rfl, rfl⟩

set_option maxRecDepth 100000 in
set_option maxHeartbeats 3200000 in
theorem m_sum (w : World) (m bl bf K : Nat) (A : Int → Option Nat) (F : Int → Option Fn) (a : Int) (h : Md w m bl bf K A F) :
    Calls Try.prog 31 #[.pointer (some ⟨m, 0, none⟩), .int .i64 a] w fun e w' => e = .returned (.tuple #[.int .i64 (sR F a : Int), .int .i64 (sB F a : Int), .int .i64 (sO F a : Int)]) ∧ Below w.heap.size w w' := by
  obtain ⟨n, hn, hm0⟩ := h.lf
  obtain ⟨MM, hMM⟩ : ∃ M, M = MF F := ⟨_, rfl⟩
  have hm : Mp Try.prog 3 w bf MM n := by rw [hMM]; exact hm0
  have HMM := Lib.hid hMM
  have HA := Lib.hid h.ab
  have c1 := h.c1
  clear hMM hm0 hn h
  go_enter Try.func31, Try.ntmps31
  go_upto_region 5 with (first
    | (at_range; refine wpList_rng rfl (.tmp 15) 53 rfl 3 50 Try.underlying3 Try.underlying53 bf _ n rfl hm ?_; intro w4 hrg4 hg4))
  have b4 : Below w.heap.size w w4 := (Only.grownN (S := fun _ => False) hg4).below (fun _ q => q.elim) (Nat.le_refl _)
  obtain ⟨rb, hrb⟩ : ∃ rb, w.heap.size = rb := ⟨_, rfl⟩
  have hrbw : w.heap.size ≤ rb := by omega
  have hmlt := hm.lt
  have hnb : rb ≠ bf := by omega
  rw [hrb] at hrg4
  rw [hrb]
  have b4' : Below w.heap.size w w4 := b4
  clear hm hg4 b4 hrb c1
  go_frame
  go_loopg [7, 8, 9] (cntB (fun x => (MM x).isSome) 64) (fun gk v7 v8 v9 wr => ∃ (left : Int → Bool) (p q u : Nat), v7 = .int .i64 (p : Int) ∧ v8 = .int .i64 (q : Int) ∧ v9 = .int .i64 (u : Int) ∧ Hid (gk = cntB left 64) ∧ Rg Try.prog 3 wr bf rb MM n left ∧ Hid (∀ z, left z = true → 0 ≤ z ∧ z < 64) ∧ Hid (p = sumN (goneN left (gR F a)) 64 ∧ q = sumN (goneN left (gB F a)) 64 ∧ u = sumN (goneN left (gO F a)) 64) ∧ Below w.heap.size w wr)
  case atStart =>
    have hnone : ∀ j : Nat, (MM (j : Int)).isSome = false → F (j : Int) = none := fun j q => by
      rw [HMM.out] at q
      have q' : ((F (j : Int)).map FnV).isSome = false := q
      cases e : F (j : Int) with
      | none => rfl
      | some u => rw [e] at q'; cases q'
    refine ⟨_, 0, 0, 0, rfl, rfl, rfl, Lib.hid rfl, hrg4, Lib.hid (fun z q => ?_), Lib.hid ⟨?_, ?_, ?_⟩, b4'⟩
    · have q' : (MM z).isSome = true := q
      obtain ⟨v, hv⟩ := Option.isSome_iff_exists.1 q'
      rw [HMM.out] at hv
      obtain ⟨⟨o, r, b⟩, hu, _⟩ := MF_some hv
      have := HA.out.f0 _ _ _ _ hu
      exact ⟨this.1, this.2.1⟩
    · exact (gone_none (fun j _ q => gR_none (hnone j q))).symm
    · exact (gone_none (fun j _ q => gB_none (hnone j q))).symm
    · exact (gone_none (fun j _ q => gO_none (hnone j q))).symm
  case round =>
    clear hrg4 b4'
    obtain ⟨left, p, q, u, rfl, rfl, rfl, HG, hrg, HLF, HS, bz⟩ := hrel
    have hpI : (p : Int) ≤ 64000 := by have := HS.out.1; have := gone_le (left := left) (HA.out.gR a); omega
    have hqI : (q : Int) ≤ 64000 := by have := HS.out.2.1; have := gone_le (left := left) (HA.out.gB a); omega
    have huI : (u : Int) ≤ 64000 := by have := HS.out.2.2; have := gone_le (left := left) (HA.out.gO a); omega
    go_wp2_with (at_next; refine wpList_nxt rfl (.tmp 16) rfl 3 Try.underlying3 bf rb _ n left rfl hrg ?_ ?_)
    · intro hdone
      go_wp2_with fail
      go_ret3
      refine ⟨?_, bz⟩
      have hall : ∀ j : Nat, j < 64 → left (j : Int) = false := fun j q => hdone j (Go.WalkArith.wf_i64 ⟨by omega, by omega⟩)
      have h1 := HS.out.1
      have h2 := HS.out.2.1
      have h3 := HS.out.2.2
      rw [gone_all hall] at h1 h2 h3
      subst h1 h2 h3
      rfl
    · intro x v w5 hwx hlx hMx hrg5 hg5 hen
      rw [HMM.out] at hMx
      obtain ⟨⟨o, r, b⟩, hFx, rfl⟩ := MF_some hMx
      have hbd := HA.out.f0 _ _ _ _ hFx
      obtain ⟨xn, hxn⟩ : ∃ xn : Nat, x = (xn : Int) := ⟨x.toNat, by omega⟩
      subst hxn
      have htake := cntB_take (f := left) (x := xn) hlx (n := 64) (by omega)
      obtain ⟨g1, hg1⟩ : ∃ g1, gk = g1 + 1 := ⟨gk - 1, by have := HG.out; omega⟩
      have hO5 : Only wr w5 (fun j => j = rb) := Only.grown hg5 (Or.inl rfl)
      have bb5 := bz.trans (hO5.below (fun j e => by rw [e]; exact hrbw) bz.size)
      have HT := Lib.hid htake
      have HG1 := Lib.hid hg1
      have HFX := Lib.hid hFx
      have hg1' : g1 = cntB (fun z => left z && !(z == (xn : Int))) 64 := by have a1 := HT.out; have a2 := HG.out; have a3 := HG1.out; omega
      have HG1' := Lib.hid hg1'
      have hLF' : ∀ z, (fun z => left z && !(z == (xn : Int))) z = true → 0 ≤ z ∧ z < 64 := fun z hq => by
        have hq' : (left z && !(z == (xn : Int))) = true := hq
        simp at hq'; exact HLF.out z hq'.1
      have HLF' := Lib.hid hLF'
      have s1 := gone_step (g := gR F a) (by omega) hlx
      have s2 := gone_step (g := gB F a) (by omega) hlx
      have s3 := gone_step (g := gO F a) (by omega) hlx
      rw [← HS.out.1, gR_some hFx] at s1
      rw [← HS.out.2.1, gB_some hFx] at s2
      rw [← HS.out.2.2, gO_some hFx] at s3
      have hoI : (o : Int) < 16 := by omega
      have hrI : (r : Int) ≤ 1000 := by omega
      have hbI : (b : Int) ≤ 1000 := by omega
      clear htake hg1 hlx hMx hg1' hLF' hrg hFx hbd
      have hb6 : Below w5.heap.size w5 (w5.alloc (.cells #[.int .i64 (o : Int), .int .i64 (r : Int), .int .i64 (b : Int)] 50)) := (Below.refl _ _).alloc (Nat.le_refl _) _
      have hrg6 := hrg5.kept (Only.of_below (S := fun _ => False) hb6) (fun q => q) (fun q => q)
      have bb6 := bb5.trans (hb6.mono bb5.size)
      clear hb6
      by_cases hoa : (o : Int) = a
      · rw [if_pos hoa] at s1 s2
        have s3' : sumN (goneN (fun z => left z && !(z == (xn : Int))) (gO F a)) 64 = u + if r = 0 then b else 0 := by rw [s3]; simp only [hoa, true_and]
        have S1 := Lib.hid s1
        have S2 := Lib.hid s2
        clear s1 s2 s3
        have hoa' : ((o : Int) == a) = true := by simpa using hoa
        have HOA := Lib.hid hoa
        by_cases hr : r = 0
        · subst hr
          rw [if_pos rfl] at s3'
          have S3 := Lib.hid s3'
          clear s3' hoa
          go_wp2_with fail
          go_roundg g1
          case measure => have := HG1.out; omega
          case rel => exact ⟨_, p, q + b, u + b, by go_num, by go_num, by go_num, HG1', hrg6, HLF', Lib.hid ⟨S1.out.symm, S2.out.symm, S3.out.symm⟩, bb6⟩
        · rw [if_neg hr] at s3'
          have S3 := Lib.hid s3'
          have hr1 : ((r : Int) == 0) = false := by simp; omega
          clear s3' hoa hr
          go_wp2_with fail
          go_roundg g1
          case measure => have := HG1.out; omega
          case rel => exact ⟨_, p + r, q + b, u, by go_num, by go_num, by go_num, HG1', hrg6, HLF', Lib.hid ⟨S1.out.symm, S2.out.symm, S3.out.symm⟩, bb6⟩
      · rw [if_neg hoa] at s1 s2
        rw [if_neg (fun z => hoa z.1)] at s3
        have S1 := Lib.hid s1
        have S2 := Lib.hid s2
        have S3 := Lib.hid s3
        have hoa' : ((o : Int) == a) = false := by simpa using hoa
        clear s1 s2 s3 hoa
        go_wp2_with fail
        go_roundg g1
        case measure => have := HG1.out; omega
        case rel => exact ⟨_, p, q, u, rfl, rfl, rfl, HG1', hrg6, HLF', Lib.hid ⟨S1.out.symm, S2.out.symm, S3.out.symm⟩, bb6⟩

end Go.Proofs.Ytancebpkiioaiaa.W
