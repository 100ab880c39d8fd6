/- Package audit: a function's memory, and a host that is gone: loops over maps. -/
import Derived.Test.YtgpookphacdgoaaAuE
import Derived.Deep.LoopGhost
import Derived.Deep.MidRow
import Derived.Deep.Cut
namespace Go.Proofs.Ytgpookphacdgoaa.W.U
open Go.RowKit Go.Maps Go.ChangeMaps Go.MapKept Go.Proofs.Ytgpookphacdgoaa.W

theorem cnt_ex {f h : Int} : ∀ {L : List Bv}, cnt L f h ≠ 0 → ∃ b ∈ L, b.fn = f ∧ b.ho = h
  | [], q => absurd rfl q
  | c :: r, q => by
    rw [cnt] at q
    by_cases e : c.fn = f ∧ c.ho = h
    · exact ⟨c, List.mem_cons_self, e⟩
    · rw [if_neg e] at q
      obtain ⟨b, hb, he⟩ := cnt_ex (L := r) (f := f) (h := h) (by omega)
      exact ⟨b, List.mem_cons_of_mem _ hb, he⟩
/-- A host on which some of a function are. -/
theorem Sim.onho {s : Vs} {W : Wd} {N : Nat} (S : Sim s W N) {f h c : Int} {g : Fv} (eg : s.fu.a f = some g) (hc : g.on.a h = some c) : (∃ p, s.ho.a h = some p) ∧ 0 ≤ c ∧ c ≤ N := by
  have := S.on f g h eg
  rw [hc] at this
  split at this
  · cases this
  · rename_i q
    cases this
    obtain ⟨b, hb, e1, e2⟩ := cnt_ex q
    have hp := S.pr b hb
    rw [e2] at hp
    have := cnt_le_len f h W.L
    have := S.gd.len
    exact ⟨Option.isSome_iff_exists.1 hp, by omega, by omega⟩
/-- Hosts' used memory while it turns. -/
def hoK (ho : Int → Option Hv) (on : Int → Option Int) (d : Int) (left : Int → Bool) : Int → Option Hv :=
  fun z => (ho z).map (fun x => if left z = true then x else { x with used := x.used + (on z).getD 0 * d })
theorem hoK_step {ho : Int → Option Hv} {on : Int → Option Int} {d : Int} {left : Int → Bool} {x c : Int} {p : Hv} (hp : ho x = some p) (hc : on x = some c) :
    updZ (hoK ho on d left) x (some { p with size := p.size, used := p.used + c * d }) = hoK ho on d (fun z => left z && !(z == x)) := by
  funext z
  unfold updZ hoK
  by_cases q : z = x
  · subst q; rw [if_pos rfl, hp, hc]; simp
  · rw [if_neg q]
    cases ho z with
    | none => rfl
    | some u => simp [q]
theorem hoK_start (ho : Int → Option Hv) (on : Int → Option Int) (d : Int) : hoK ho on d (fun z => (on z).isSome) = ho := by
  funext z
  unfold hoK
  cases hz : ho z with
  | none => rfl
  | some u => cases hq : on z <;> simp [hq]
theorem setH_row (s : Vs) {x : Int} {p q : Hv} (e : s.ho.a x = some p) : s.setH x q = { s with ho := ⟨updZ s.ho.a x (some q), s.ho.n⟩ } := by
  unfold Vs.setH Tb.set; rw [e]; rfl
theorem mul_bd {c d : Int} {N : Nat} (h0 : 0 ≤ c) (h1 : c ≤ N) (hN : N ≤ 1048576) (d0 : -4294967296 ≤ d) (d1 : d ≤ 4294967296) : -4503599627370496 ≤ c * d ∧ c * d ≤ 4503599627370496 := by
  have h2 : c ≤ 1048576 := by omega
  constructor
  · have a := Int.mul_le_mul_of_nonneg_left d0 h0
    have b : c * 4294967296 ≤ 1048576 * 4294967296 := Int.mul_le_mul_of_nonneg_right h2 (by decide)
    have e : c * -4294967296 = -(c * 4294967296) := by rw [Int.mul_neg]
    omega
  · have a := Int.mul_le_mul_of_nonneg_left d1 h0
    have b : c * 4294967296 ≤ 1048576 * 4294967296 := Int.mul_le_mul_of_nonneg_right h2 (by decide)
    omega


theorem Nx.side {w w1 w2 : World} {o o1 : Nat → Option Tag} (h : Nx w o w1 o1) {r : Nat} (hg : w1.grownBy w2 (some r)) (hr : o1 r = Option.none) (hw : o r ≠ Option.none ∨ w.heap.size ≤ r) : Nx w o w2 o1 := by
  refine ⟨h.only.trans (Only.grown (S := fun j => j = r) hg (Or.inl rfl)) (fun j q => ?_), h.new⟩
  subst q; exact hw

theorem hoK_end {ho : Int → Option Hv} {on : Int → Option Int} {d : Int} {left : Int → Bool} (h : ∀ z c, on z = some c → left z = false) (z : Int) : hoK ho on d left z = (ho z).map (fun x => { x with used := x.used + (on z).getD 0 * d }) := by
  unfold hoK
  cases q : on z with
  | none => cases ho z <;> simp
  | some c => rw [h z c q]; simp

set_option maxRecDepth 100000 in
set_option maxHeartbeats 3200000 in
theorem c_setF1 {w : World} {own : Nat → Option Tag} {y : Lay} {s : Vs} {W : Wd} {N : Nat} (h : Cor w own y s) (S : Sim s W N) (hN : N < 1048576) {n m : Int} (wf : (KL n).wf = true) (hm : 0 ≤ m ∧ m ≤ 2147483647) {g : Fv} (eg1 : s.fu.a n = some g) : Calls Try.prog 28 #[ptr y.v, .int .i64 n, .int .i64 m] w fun e w' => e = .returned (.tuple #[]) ∧ ∃ own' y' s', Nx w own w' own' ∧ y'.v = y.v ∧ Cor w' own' y' s' ∧ Sim s' { W with me := updZ W.me n (some m) } (N + 1) := by
  have N0 := Nx.refl w own
  have h0 := h
  clear h
  have q0 := h0.v1
  have q1 := h0.lfK eg1 wf
  go_enter Try.func28, Try.ntmps28
  obtain ⟨y1, hy1⟩ : ∃ z, y = z := ⟨_, rfl⟩
  obtain ⟨s1, hs1⟩ : ∃ z, s = z := ⟨_, rfl⟩
  have HY1 : Hid (y1.v = y.v) := Lib.hid (by rw [hy1])
  have hm0 := S.gd.mem _ _ (S.me eg1)
  have HON : Hid (∀ z c, g.on.a z = some c → (∃ p, s1.ho.a z = some p) ∧ 0 ≤ c ∧ c ≤ N ∧ (KL z).wf = true) := Lib.hid (by
    rw [← hs1]
    intro z c q
    obtain ⟨a1, a2, a3⟩ := S.onho eg1 q
    refine ⟨a1, a2, a3, ?_⟩
    have := S.on n g z eg1
    rw [q] at this
    split at this
    · cases this
    · rename_i r
      obtain ⟨b, hb, _, e2⟩ := cnt_ex r
      rw [← e2]; exact (S.gd.wfs b hb).2)
  have HUS : Hid (∀ z p, s1.ho.a z = some p → 0 ≤ p.used ∧ p.used ≤ 2251799813685248) := Lib.hid (by rw [← hs1]; exact fun z p q => S.usB (by omega) q)
  have SM := Lib.hid (fun (left : Int → Bool) (hl : ∀ z c, g.on.a z = some c → left z = false) => (S.memo eg1 hm (hoK_end hl)).up (Nat.le_succ N))
  rw [hs1] at h0 eg1 SM
  rw [hy1] at h0 q0 q1
  try rw [hy1]
  have hv0 : (y1.v : Nat) = y1.v := rfl
  clear hs1 hy1
  have hown := ((h0.ob (.fo n)) _ eg1).1
  have hmap := ((h0.ob (.fo n)) _ eg1).2
  have q1 := h0.f1 eg1
  go_upto_region 5 with (first | (at_range; refine wpList_rngi rfl (.tmp 33) 44 rfl 3 3 Try.underlying3 Try.underlying44 (y1.fo n) _ _ rfl hmap ?_; intro w4 hrg4 hg4))
  have h4 := h0.side (Only.grownN (S := fun _ => False) hg4) (fun _ q => q.elim)
  have N4 : Nx w own w4 own := N0.trans ⟨Only.grownN hg4, fun _ q => Or.inl q⟩
  have hrb0 := h0.fresh (Nat.le_refl w.heap.size)
  obtain ⟨rb, hrb⟩ : ∃ rb, w.heap.size = rb := ⟨_, rfl⟩
  have HNB : Hid (w.heap.size ≤ rb) := Lib.hid (by rw [← hrb]; exact N0.only.size)
  rw [hrb] at hrg4 hrb0
  rw [hrb]
  have HRB := Lib.hid hrb0
  clear hrb hg4 hmap q1 hrb0
  have hst : hoK s1.ho.a g.on.a (m - g.mem) (fun z => (g.on.a z).isSome) = s1.ho.a := hoK_start _ _ _
  have h4' : Cor w4 own y1 { s1 with ho := ⟨hoK s1.ho.a g.on.a (m - g.mem) (fun z => (g.on.a z).isSome), s1.ho.n⟩ } := by rw [hst]; exact h4
  have hrg4' : Ri Try.prog 3 w4 (y1.fo n) rb (fun z => (g.on.a z).map (fun c => Value.int .i64 c)) g.on.n (fun z => (g.on.a z).isSome) g.on.n := by
    have e : (fun z => ((g.on.a z).map (fun c => Value.int .i64 c)).isSome) = (fun z => (g.on.a z).isSome) := by funext z; cases g.on.a z <;> rfl
    rw [← e]; exact hrg4
  clear h4 hrg4 hst
  have HEG := Lib.hid eg1
  obtain ⟨MM, hMM⟩ : ∃ MM, (fun z => (g.on.a z).map (fun c => Value.int .i64 c)) = MM := ⟨_, rfl⟩
  rw [hMM] at hrg4'
  have HMM := Lib.hid hMM
  clear hMM
  go_loopg [] g.on.n (fun gk wr => ∃ (left : Int → Bool) (o' : Nat → Option Tag), Hid (Cor wr o' y1 { s1 with ho := ⟨hoK s1.ho.a g.on.a (m - g.mem) left, s1.ho.n⟩ }) ∧ Hid (Nx w own wr o') ∧ Hid (o' rb = none) ∧ Ri Try.prog 3 wr (y1.fo n) rb MM g.on.n left gk)
  case atStart => exact ⟨_, _, Lib.hid h4', Lib.hid N4, HRB, hrg4'⟩
  case round =>
    clear hrg4' h4' N4 HRB hown eg1 h0 N0
    obtain ⟨left, o5, H5, NN5, HR5, hrg⟩ := hrel
    go_wp2_with (at_next; refine wpList_nxti rfl (.tmp 34) rfl 3 Try.underlying3 (y1.fo n) rb _ _ left gk rfl hrg ?_ ?_)
    · intro hdone
      have h5 := H5.out
      have eg5 : ({ s1 with ho := ⟨hoK s1.ho.a g.on.a (m - g.mem) left, s1.ho.n⟩ } : Vs).fu.a n = some g := HEG.out
      have hr := ((h5.ob (.fb n)) _ eg5).2
      clear hrg
      go_wp2_with (with_reducible refine wpList_store_in rfl 3 (.tmp 60) (.tmp 58) rfl (by kernel_rfl) (y1.fb n) 0 rfl .i64 m rfl _ _ hr (by simp [frow]) ?_; intro w6 m6 g6)
      go_end0
      obtain ⟨h6, n6⟩ := Cor.fb h5 eg5 (m := m) m6.out g6
      have N6 := NN5.out.trans n6
      have hho : ∀ z, (KL z).wf = true → left z = false := hdone
      exact ⟨rfl, _, N6, y1, rfl, _, h6, SM.out left (fun z c q => hho z (HON.out z c q).2.2.2)⟩
    · intro x v w5 g1 hg1 hwx hlx hMx hrg5 hg5 hen
      obtain ⟨c, hc, rfl⟩ : ∃ c, g.on.a x = some c ∧ v = .int .i64 c := by
        rw [← HMM.out] at hMx
        dsimp only at hMx
        cases q : g.on.a x with
        | none => rw [q] at hMx; cases hMx
        | some c => rw [q] at hMx; injection hMx with hMx; exact ⟨c, rfl, hMx.symm⟩
      obtain ⟨⟨p, hp⟩, c0, c1, _⟩ := HON.out x c hc
      obtain ⟨u0, u1⟩ := HUS.out x p hp
      have hbd := mul_bd c0 c1 (show N ≤ 1048576 by omega) (show -4294967296 ≤ m - g.mem by omega) (by omega)
      have hsd := HNB.out
      have h6 := H5.out.side (Only.grown (S := fun j => j = rb) hg5 (Or.inl rfl)) (fun j q => by rw [q]; exact HR5.out)
      have N6 := NN5.out.side hg5 HR5.out (Or.inr hsd)
      have hp5 : ({ s1 with ho := ⟨hoK s1.ho.a g.on.a (m - g.mem) left, s1.ho.n⟩ } : Vs).ho.a x = some p := by
        show hoK _ _ _ _ x = _
        unfold hoK; rw [hp, Option.map_some, if_pos hlx]
      have eg5 : ({ s1 with ho := ⟨hoK s1.ho.a g.on.a (m - g.mem) left, s1.ho.n⟩ } : Vs).fu.a n = some g := HEG.out
      have hstep := hoK_step (d := m - g.mem) (left := left) hp hc
      have HST := Lib.hid hstep
      have hw1 : IntKind.i64.wrap (m - g.mem) = m - g.mem := wr_small (by omega) (by omega)
      have hw2 : IntKind.i64.wrap (c * (m - g.mem)) = c * (m - g.mem) := wr_small (by omega) (by omega)
      have hw3 : IntKind.i64.wrap (p.used + c * (m - g.mem)) = p.used + c * (m - g.mem) := wr_small (by omega) (by omega)
      have HG1 := Lib.hid hg1
      obtain ⟨s5, hs5⟩ : ∃ z : Vs, ({ s1 with ho := ⟨hoK s1.ho.a g.on.a (m - g.mem) left, s1.ho.n⟩ } : Vs) = z := ⟨_, rfl⟩
      rw [hs5] at h6 hp5 eg5
      have HS5 := Lib.hid hs5
      have hq := quiet_eq (c_host0 (h6.drewN 1) hp5 hwx)
      have q1 := h6.h1 hp5
      have q2 := h6.f0 eg5
      clear hrg hg5 hstep hs5 hg1 hsd hMx hlx hbd u0 u1 c0 c1 H5 NN5 hp
      have HC := Lib.hid hc
      clear hc
      go_wp2_with fail
      go_still_tail 17, (by kernel_rfl)
      still_call hq
      repeat still_step
      try refine wpStill_nil ?_
      change wpList _ _ _ _ _ w5.drew
      have h7 := h6.drew
      have N7 := N6.drew
      have hrg7 : Ri Try.prog 3 w5.drew (y1.fo n) rb MM g.on.n (fun z => left z && !(z == x)) g1 := hrg5
      clear q1 q2 hq hrg5 hen
      generalize w5.drew = w7 at h7 N7 hrg7 ⊢
      clear h6 N6
      have hr := ((h7.ob (.hb x)) _ hp5).2
      refine wpList_store_in rfl 3 (.tmp 56) (.tmp 54) rfl (by kernel_rfl) (y1.hb x) 1 rfl .i64 (p.used + c * (m - g.mem)) rfl _ _ hr (by simp [hrow]) ?_
      intro w8 m8 g8
      obtain ⟨h8, n8⟩ := Cor.hb h7 hp5 (z := p.size) (u := p.used + c * (m - g.mem)) m8.out g8
      have N8 := N7.trans n8
      have hob := ((h7.ob (.hb x)) _ hp5).1
      have hof := ((h7.ob (.fo n)) _ eg5).1
      have hrg8 : Ri Try.prog 3 w8 (y1.fo n) rb MM g.on.n (fun z => left z && !(z == x)) g1 := hrg7.kept (Only.grown (S := fun j => j = y1.hb x) g8 (Or.inl rfl)) (tag_ne hof hob (by simp)) (fun q => by have := HR5.out; rw [q, hob] at this; cases this)
      have hR8 := n8.none HR5.out hrg7.ne.2
      have hfin : s5.setH x { p with size := p.size, used := p.used + c * (m - g.mem) } = { s1 with ho := ⟨hoK s1.ho.a g.on.a (m - g.mem) (fun z => left z && !(z == x)), s1.ho.n⟩ } := by
        rw [setH_row s5 hp5, ← HS5.out]
        dsimp only
        rw [HST.out]
      rw [hfin] at h8
      clear hr hp5 eg5 hrg7 h7 N7 n8 m8 g8 hob hof hfin hw1 hw2 hw3
      have H8 := Lib.hid h8
      have NN8 := Lib.hid N8
      clear h8 N8
      go_wp2_with fail
      go_roundg g1
      case measure => exact HG1.out
      case rel => exact ⟨_, _, H8, NN8, Lib.hid hR8, hrg8⟩


theorem hoK_none {ho : Int → Option Hv} {d : Int} {left : Int → Bool} : hoK ho (fun _ => none) d left = ho := by
  funext z
  unfold hoK
  cases ho z with
  | none => rfl
  | some x => simp

set_option maxRecDepth 100000 in
set_option maxHeartbeats 3200000 in
theorem c_setF0 {w : World} {own : Nat → Option Tag} {y : Lay} {s : Vs} {W : Wd} {N : Nat} (h : Cor w own y s) (S : Sim s W N) (hN : N < 1048576) {n m : Int} (wf : (KL n).wf = true) (hm : 0 ≤ m ∧ m ≤ 2147483647) (e : s.fu.a n = none) : Calls Try.prog 28 #[ptr y.v, .int .i64 n, .int .i64 m] w fun e w' => e = .returned (.tuple #[]) ∧ ∃ own' y' s', Nx w own w' own' ∧ y'.v = y.v ∧ Cor w' own' y' s' ∧ Sim s' { W with me := updZ W.me n (some m) } (N + 1) := by
  have N0 := Nx.refl w own
  have h0 := h
  clear h
  have q0 := h0.v1
  have q1 := h0.lfN e wf
  have hmm := @run_makeMap Try.prog
  have a1 := (h0.alloc (.map #[] 0)).alloc (.cells #[.int .i64 0, .map (some w.heap.size)] 81)
  have hmp := MpT.mp (a1.ob .mf).2
  have q2 := a1.v1
  have ha := heap_alloc_new (w.alloc (.map #[] 0)) (.cells #[.int .i64 0, .map (some w.heap.size)] 81)
  rw [World.size_alloc] at ha
  have hm0 : MpT ((w.alloc (.map #[] 0)).alloc (.cells #[.int .i64 0, .map (some w.heap.size)] 81)) w.heap.size (Tb.nil : Tb Int) (fun _ c => .int .i64 c) := (MpT.made (w := w) _).kept ((Only.refl _ (fun _ => False)).alloc _) (fun q => q)
  have ho := (((Only.refl w (fun _ => False)).alloc (.map #[] 0)).alloc (.cells #[.int .i64 0, .map (some w.heap.size)] 81))
  have hl := (h0.ob .mf).2.lt
  have HM0 := Lib.hid hm0
  have HA := Lib.hid ha
  have HO := Lib.hid ho
  clear hm0 ha ho
  have hnf := S.nf
  go_enter Try.func28, Try.ntmps28
  go_upto_region 4 with (first | (with_reducible refine wpList_mp_set rfl (.tmp 27) (.tmp 28) (.tmp 29) 48 rfl 3 78 Try.underlying3 Try.underlying48 _ _ _ rfl hmp (len1g (by omega)) n rfl wf (ptr (w.heap.size + 1)) rfl _ rfl ?_; intro w1 m1 g1))
  have hb1 : (y.mf : Nat) ≠ w.heap.size + 1 := by omega
  have hb0 : (y.mf : Nat) ≠ w.heap.size := by omega
  obtain ⟨h1, N1⟩ := h0.newF e (w.heap.size + 1) w.heap.size (by omega) (Nat.le_refl _) (by omega) ((HO.out.mono (fun j q => q.elim)).tr (Only.grown (r := y.mf) g1 (Or.inl rfl)))
    (by rw [g1.block _ (lt_of_row HA.out) (by simpa using fun q => hb1 q.symm)]; exact HA.out) (HM0.out.kept (Only.grown (S := fun j => j = y.mf) g1 (Or.inl rfl)) (fun q => hb0 q.symm)) (by rw [e] at m1; exact m1)
  clear q0 q1 q2 hmm a1 hmp HM0 HA HO hl m1 g1 hb1 hb0 h0 N0
  obtain ⟨o1, ho1⟩ : ∃ z, ownB (ownB own w.heap.size (.fo n)) (w.heap.size + 1) (.fb n) = z := ⟨_, rfl⟩
  rw [ho1] at h1 N1
  have hfb := (withF_at y n (w.heap.size + 1) w.heap.size).1
  have hvv : (y.withF n (w.heap.size + 1) w.heap.size).v = y.v := rfl
  obtain ⟨y1, hy1⟩ : ∃ z, y.withF n (w.heap.size + 1) w.heap.size = z := ⟨_, rfl⟩
  rw [hy1] at h1 hfb hvv
  rw [← hfb, ← hvv]
  obtain ⟨g, hg⟩ : ∃ z, (⟨0, .nil⟩ : Fv) = z := ⟨_, rfl⟩
  have eg1 : (s.setF n g).fu.a n = some g := setF_at _ _ _
  have hgm : g.mem = 0 := by rw [← hg]
  have hgn : g.on.a = (fun _ => none) := by rw [← hg]; rfl
  have HY1 : Hid (y1.v = y.v) := Lib.hid hvv
  have hm0 : 0 ≤ g.mem ∧ g.mem ≤ 2147483647 := by omega
  have HON : Hid (∀ z c, g.on.a z = some c → (∃ p, (s.setF n g).ho.a z = some p) ∧ 0 ≤ c ∧ c ≤ N ∧ (KL z).wf = true) := Lib.hid (by
    intro z c q
    rw [hgn] at q; cases q)
  have HUS : Hid (∀ z p, (s.setF n g).ho.a z = some p → 0 ≤ p.used ∧ p.used ≤ 2251799813685248) := Lib.hid (fun z p q => S.usB (by omega) q)
  have SM : Hid (∀ (left : Int → Bool) (_ : ∀ z c, g.on.a z = some c → left z = false), Sim { (s.setF n g).setF n { g with mem := m } with ho := ⟨hoK (s.setF n g).ho.a g.on.a (m - g.mem) left, (s.setF n g).ho.n⟩ } { W with me := updZ W.me n (some m) } (N + 1)) := Lib.hid (by
    intro left _
    rw [hgn, hoK_none]
    have := S.fresh e hm
    rw [setF_setF, ← hg]
    exact this)
  rw [hg] at h1
  obtain ⟨s1, hs1⟩ : ∃ z, s.setF n g = z := ⟨_, rfl⟩
  rw [hs1] at h1 eg1 SM HON HUS
  clear hs1 hy1 hg hgn hgm ho1 hvv hfb
  have hown := ((h1.ob (.fo n)) _ eg1).1
  have hmap := ((h1.ob (.fo n)) _ eg1).2
  have q1 := h1.f1 eg1
  go_upto_region 5 with (first | (at_range; refine wpList_rngi rfl (.tmp 33) 44 rfl 3 3 Try.underlying3 Try.underlying44 (y1.fo n) _ _ rfl hmap ?_; intro w4 hrg4 hg4))
  have h4 := h1.side (Only.grownN (S := fun _ => False) hg4) (fun _ q => q.elim)
  have N4 : Nx w own w4 o1 := N1.trans ⟨Only.grownN hg4, fun _ q => Or.inl q⟩
  have hrb0 := h1.fresh (Nat.le_refl w1.heap.size)
  obtain ⟨rb, hrb⟩ : ∃ rb, w1.heap.size = rb := ⟨_, rfl⟩
  have HNB : Hid (w.heap.size ≤ rb) := Lib.hid (by rw [← hrb]; exact N1.only.size)
  rw [hrb] at hrg4 hrb0
  rw [hrb]
  have HRB := Lib.hid hrb0
  clear hrb hg4 hmap q1 hrb0
  have hst : hoK s1.ho.a g.on.a (m - g.mem) (fun z => (g.on.a z).isSome) = s1.ho.a := hoK_start _ _ _
  have h4' : Cor w4 o1 y1 { s1 with ho := ⟨hoK s1.ho.a g.on.a (m - g.mem) (fun z => (g.on.a z).isSome), s1.ho.n⟩ } := by rw [hst]; exact h4
  have hrg4' : Ri Try.prog 3 w4 (y1.fo n) rb (fun z => (g.on.a z).map (fun c => Value.int .i64 c)) g.on.n (fun z => (g.on.a z).isSome) g.on.n := by
    have e : (fun z => ((g.on.a z).map (fun c => Value.int .i64 c)).isSome) = (fun z => (g.on.a z).isSome) := by funext z; cases g.on.a z <;> rfl
    rw [← e]; exact hrg4
  clear h4 hrg4 hst
  have HEG := Lib.hid eg1
  obtain ⟨MM, hMM⟩ : ∃ MM, (fun z => (g.on.a z).map (fun c => Value.int .i64 c)) = MM := ⟨_, rfl⟩
  rw [hMM] at hrg4'
  have HMM := Lib.hid hMM
  clear hMM
  go_loopg [] g.on.n (fun gk wr => ∃ (left : Int → Bool) (o' : Nat → Option Tag), Hid (Cor wr o' y1 { s1 with ho := ⟨hoK s1.ho.a g.on.a (m - g.mem) left, s1.ho.n⟩ }) ∧ Hid (Nx w own wr o') ∧ Hid (o' rb = none) ∧ Ri Try.prog 3 wr (y1.fo n) rb MM g.on.n left gk)
  case atStart => exact ⟨_, _, Lib.hid h4', Lib.hid N4, HRB, hrg4'⟩
  case round =>
    clear hrg4' h4' N4 HRB hown eg1 h1 N1
    obtain ⟨left, o5, H5, NN5, HR5, hrg⟩ := hrel
    go_wp2_with (at_next; refine wpList_nxti rfl (.tmp 34) rfl 3 Try.underlying3 (y1.fo n) rb _ _ left gk rfl hrg ?_ ?_)
    · intro hdone
      have h5 := H5.out
      have eg5 : ({ s1 with ho := ⟨hoK s1.ho.a g.on.a (m - g.mem) left, s1.ho.n⟩ } : Vs).fu.a n = some g := HEG.out
      have hr := ((h5.ob (.fb n)) _ eg5).2
      clear hrg
      go_wp2_with (with_reducible refine wpList_store_in rfl 3 (.tmp 60) (.tmp 58) rfl (by kernel_rfl) (y1.fb n) 0 rfl .i64 m rfl _ _ hr (by simp [frow]) ?_; intro w6 m6 g6)
      go_end0
      obtain ⟨h6, n6⟩ := Cor.fb h5 eg5 (m := m) m6.out g6
      have N6 := NN5.out.trans n6
      have hho : ∀ z, (KL z).wf = true → left z = false := hdone
      exact ⟨rfl, _, N6, y1, HY1.out, _, h6, SM.out left (fun z c q => hho z (HON.out z c q).2.2.2)⟩
    · intro x v w5 g1 hg1 hwx hlx hMx hrg5 hg5 hen
      obtain ⟨c, hc, rfl⟩ : ∃ c, g.on.a x = some c ∧ v = .int .i64 c := by
        rw [← HMM.out] at hMx
        dsimp only at hMx
        cases q : g.on.a x with
        | none => rw [q] at hMx; cases hMx
        | some c => rw [q] at hMx; injection hMx with hMx; exact ⟨c, rfl, hMx.symm⟩
      obtain ⟨⟨p, hp⟩, c0, c1, _⟩ := HON.out x c hc
      obtain ⟨u0, u1⟩ := HUS.out x p hp
      have hbd := mul_bd c0 c1 (show N ≤ 1048576 by omega) (show -4294967296 ≤ m - g.mem by omega) (by omega)
      have hsd := HNB.out
      have h6 := H5.out.side (Only.grown (S := fun j => j = rb) hg5 (Or.inl rfl)) (fun j q => by rw [q]; exact HR5.out)
      have N6 := NN5.out.side hg5 HR5.out (Or.inr hsd)
      have hp5 : ({ s1 with ho := ⟨hoK s1.ho.a g.on.a (m - g.mem) left, s1.ho.n⟩ } : Vs).ho.a x = some p := by
        show hoK _ _ _ _ x = _
        unfold hoK; rw [hp, Option.map_some, if_pos hlx]
      have eg5 : ({ s1 with ho := ⟨hoK s1.ho.a g.on.a (m - g.mem) left, s1.ho.n⟩ } : Vs).fu.a n = some g := HEG.out
      have hstep := hoK_step (d := m - g.mem) (left := left) hp hc
      have HST := Lib.hid hstep
      have hw1 : IntKind.i64.wrap (m - g.mem) = m - g.mem := wr_small (by omega) (by omega)
      have hw2 : IntKind.i64.wrap (c * (m - g.mem)) = c * (m - g.mem) := wr_small (by omega) (by omega)
      have hw3 : IntKind.i64.wrap (p.used + c * (m - g.mem)) = p.used + c * (m - g.mem) := wr_small (by omega) (by omega)
      have HG1 := Lib.hid hg1
      obtain ⟨s5, hs5⟩ : ∃ z : Vs, ({ s1 with ho := ⟨hoK s1.ho.a g.on.a (m - g.mem) left, s1.ho.n⟩ } : Vs) = z := ⟨_, rfl⟩
      rw [hs5] at h6 hp5 eg5
      have HS5 := Lib.hid hs5
      have hq := quiet_eq (c_host0 (h6.drewN 1) hp5 hwx)
      have q1 := h6.h1 hp5
      have q2 := h6.f0 eg5
      clear hrg hg5 hstep hs5 hg1 hsd hMx hlx hbd u0 u1 c0 c1 H5 NN5 hp
      have HC := Lib.hid hc
      clear hc
      go_wp2_with fail
      go_still_tail 17, (by kernel_rfl)
      still_call hq
      repeat still_step
      try refine wpStill_nil ?_
      change wpList _ _ _ _ _ w5.drew
      have h7 := h6.drew
      have N7 := N6.drew
      have hrg7 : Ri Try.prog 3 w5.drew (y1.fo n) rb MM g.on.n (fun z => left z && !(z == x)) g1 := hrg5
      clear q1 q2 hq hrg5 hen
      generalize w5.drew = w7 at h7 N7 hrg7 ⊢
      clear h6 N6
      have hr := ((h7.ob (.hb x)) _ hp5).2
      refine wpList_store_in rfl 3 (.tmp 56) (.tmp 54) rfl (by kernel_rfl) (y1.hb x) 1 rfl .i64 (p.used + c * (m - g.mem)) rfl _ _ hr (by simp [hrow]) ?_
      intro w8 m8 g8
      obtain ⟨h8, n8⟩ := Cor.hb h7 hp5 (z := p.size) (u := p.used + c * (m - g.mem)) m8.out g8
      have N8 := N7.trans n8
      have hob := ((h7.ob (.hb x)) _ hp5).1
      have hof := ((h7.ob (.fo n)) _ eg5).1
      have hrg8 : Ri Try.prog 3 w8 (y1.fo n) rb MM g.on.n (fun z => left z && !(z == x)) g1 := hrg7.kept (Only.grown (S := fun j => j = y1.hb x) g8 (Or.inl rfl)) (tag_ne hof hob (by simp)) (fun q => by have := HR5.out; rw [q, hob] at this; cases this)
      have hR8 := n8.none HR5.out hrg7.ne.2
      have hfin : s5.setH x { p with size := p.size, used := p.used + c * (m - g.mem) } = { s1 with ho := ⟨hoK s1.ho.a g.on.a (m - g.mem) (fun z => left z && !(z == x)), s1.ho.n⟩ } := by
        rw [setH_row s5 hp5, ← HS5.out]
        dsimp only
        rw [HST.out]
      rw [hfin] at h8
      clear hr hp5 eg5 hrg7 h7 N7 n8 m8 g8 hob hof hfin hw1 hw2 hw3
      have H8 := Lib.hid h8
      have NN8 := Lib.hid N8
      clear h8 N8
      go_wp2_with fail
      go_roundg g1
      case measure => exact HG1.out
      case rel => exact ⟨_, _, H8, NN8, Lib.hid hR8, hrg8⟩


set_option maxRecDepth 100000 in
set_option maxHeartbeats 3200000 in
theorem c_fail {w : World} {own : Nat → Option Tag} {y : Lay} {s : Vs} {W : Wd} {N : Nat} (h : Cor w own y s) (S : Sim s W N) (hN : N < 1048570) {n : Int} (wf : (KL n).wf = true) : Calls Try.prog 29 #[ptr y.v, .int .i64 n] w fun e w' => e = .returned (.tuple #[]) ∧ ∃ own' y' s', Nx w own w' own' ∧ y'.v = y.v ∧ Cor w' own' y' s' ∧ Sim s' { W with L := W.L.filter (fun b => b.ho != n), sz := upI W.sz n 0 } (N + 1) := by
  have N0 := Nx.refl w own
  go_enter Try.func29, Try.ntmps29
  go_wp2_with fail
  refine (c_hostS h S (by omega) wf).mono ?_
  rintro e0 w1 ⟨o1, y1, s1, p, rfl, h1, N1, S1, hp, hv1, _, _, _, _⟩
  rw [← hv1]
  have HY1 := Lib.hid hv1
  clear hv1 h N0
  have hmap := ((h1.ob (.hm n)) _ hp).2
  have q1 := h1.h2 hp
  obtain ⟨MM, hMM⟩ : ∃ MM, (fun z => (p.bo.a z).map (fun _ => ptr (y1.bx z))) = MM := ⟨_, rfl⟩
  unfold MpT at hmap
  rw [hMM] at hmap
  have hsm : ∀ z, (MM z).isSome = (p.bo.a z).isSome := fun z => by rw [← hMM]; exact isSome_map _ _
  go_upto_region 1 with (first | (at_range; refine wpList_rngi rfl (.tmp 11) 50 rfl 3 64 Try.underlying3 Try.underlying50 (y1.hm n) _ _ rfl hmap ?_; intro w4 hrg4 hg4))
  have h4 := h1.side (Only.grownN (S := fun _ => False) hg4) (fun _ q => q.elim)
  have N4 : Nx w own w4 o1 := N1.trans ⟨Only.grownN hg4, fun _ q => Or.inl q⟩
  have hrb0 := h1.fresh (Nat.le_refl w1.heap.size)
  obtain ⟨rb, hrb⟩ : ∃ rb, w1.heap.size = rb := ⟨_, rfl⟩
  have HNB : Hid (w.heap.size ≤ rb) := Lib.hid (by rw [← hrb]; exact N1.only.size)
  rw [hrb] at hrg4 hrb0
  rw [hrb]
  have HRB := Lib.hid hrb0
  have hL0 : W.L.filter (fun b => b.ho != n || (MM b.id).isSome) = W.L := by
    refine List.filter_eq_self.2 (fun b hb => ?_)
    by_cases q : b.ho = n
    · have hf := fnd_of_mem S1.gd.dis hb
      have := (S1.bo n p b.id hp).2 ⟨b, hf, q⟩
      rw [hsm, this]; simp
    · simp [q]
  have S4 : Sim s1 { W with L := W.L.filter (fun b => b.ho != n || (MM b.id).isSome) } (N + 1) := by rw [hL0]; exact S1
  have HP4 : Hid (∃ x', s1.ho.a n = some x' ∧ (fun z => (x'.bo.a z).map (fun _ => ptr (y1.bx z))) = MM) := Lib.hid ⟨p, hp, hMM⟩
  clear hrb hg4 hmap q1 hrb0 hL0 hsm h1 N1
  go_frame
  go_loopg [] p.bo.n (fun gk wr => ∃ (left : Int → Bool) (o' : Nat → Option Tag) (s' : Vs) (M' : Int → Option Value) (c' : Nat), Hid (Cor wr o' y1 s') ∧ Hid (Nx w own wr o') ∧ Hid (o' rb = none) ∧ Hid (Sim s' { W with L := W.L.filter (fun b => b.ho != n || left b.id) } (N + 1)) ∧ Hid (∃ x', s'.ho.a n = some x' ∧ (fun z => (x'.bo.a z).map (fun _ => ptr (y1.bx z))) = M') ∧ Ri Try.prog 3 wr (y1.hm n) rb M' c' left gk)
  case atStart => exact ⟨_, _, _, _, _, Lib.hid h4, Lib.hid N4, HRB, Lib.hid S4, HP4, hrg4⟩
  case round =>
    clear hrg4 h4 N4 HRB HP4 S4 S1 hp
    obtain ⟨left, o5, s5, M5, c5, H5, NN5, HR5, HS5, HP5, hrg⟩ := hrel
    go_wp2_with (at_next; refine wpList_nxti rfl (.tmp 12) rfl 3 Try.underlying3 (y1.hm n) rb M5 c5 left gk rfl hrg ?_ ?_)
    · intro hdone
      have h5 := H5.out
      have hL : W.L.filter (fun b => b.ho != n || left b.id) = W.L.filter (fun b => b.ho != n) := by
        refine List.filter_congr (fun b hb => ?_)
        have hb1 := S.gd.ids b hb
        have hb2 := S.gd.nxN
        rw [hdone b.id (wfK (by omega) (by omega)), Bool.or_false]
      have S5 := HS5.out
      rw [hL] at S5
      have S6 := S5.gone (n := n) (fun b hb q => by have := (List.mem_filter.1 hb).2; simp [q] at this)
      have hmp := MpT.mp (h5.ob .mh).2
      have q2 := h5.v2
      have HS6 := Lib.hid S6
      clear hrg S5 S6 hL
      go_wp2_with (with_reducible refine wpList_mp_del rfl (.tmp 23) (.tmp 24) 49 3 rfl 71 Try.underlying3 Try.underlying49 _ _ _ rfl hmp n rfl wf _ rfl ?_; intro w6 m6 g6)
      go_end0
      obtain ⟨h6, n6⟩ := Cor.mh_del h5 (MpT.del m6) g6
      exact ⟨rfl, _, NN5.out.trans n6, y1, HY1.out, _, h6, HS6.out⟩
    · intro x v w5 g1 hg1 hwx hlx hMx hrg5 hg5 hen
      obtain ⟨x', hx', hM5⟩ := HP5.out
      obtain ⟨hbx, rfl⟩ : (x'.bo.a x).isSome = true ∧ v = ptr (y1.bx x) := by
        rw [← hM5] at hMx
        dsimp only at hMx
        cases q : x'.bo.a x with
        | none => rw [q] at hMx; cases hMx
        | some u => rw [q] at hMx; injection hMx with hMx; exact ⟨rfl, hMx.symm⟩
      obtain ⟨b, hb, hbh⟩ := (HS5.out.bo n x' x hx').1 hbx
      have h6 := H5.out.side (Only.grown (S := fun j => j = rb) hg5 (Or.inl rfl)) (fun j q => by rw [q]; exact HR5.out)
      have N6 := NN5.out.side hg5 HR5.out (Or.inr HNB.out)
      have hdr := c_dropS h6 HS5.out (by omega) hb
      rw [hbh] at hdr
      have HDR := Lib.hid hdr
      have HHB := Lib.hid hb
      have HHH := Lib.hid hbh
      have HG1 := Lib.hid hg1
      have HX' := Lib.hid hx'
      have HM5 := Lib.hid hM5
      clear hrg hg5 hdr hb hbh hg1 hbx hMx hlx hx' hM5 H5 NN5 HP5
      go_wp2_with fail
      refine HDR.out.mono ?_
      rintro e6 w7 ⟨rfl, o7, s7, h7, n7, S7, hx7⟩
      obtain ⟨x7, hx7a, hx7b, hR⟩ := hx7 x' HX'.out
      rw [HM5.out] at hR
      obtain ⟨g2, hg2, c2, hrg7⟩ := hR rb c5 _ g1 HR5.out hrg5
      have hM7 : (fun z => (x7.bo.a z).map (fun _ => ptr (y1.bx z))) = updZ M5 x none := by
        rw [hx7b, mapD, HM5.out]
      have hleft : (fun z => (left z && !(z == x)) && !(z == x)) = (fun z => left z && !(z == x)) := by
        funext z; cases left z <;> cases (z == x) <;> rfl
      rw [hleft] at hrg7
      have hd := HS5.out.gd.dis
      have hL7 : drp (W.L.filter (fun b => b.ho != n || left b.id)) x = W.L.filter (fun b => b.ho != n || (left b.id && !(b.id == x))) := by
        rw [drp_filter hd x, List.filter_filter]
        refine List.filter_congr (fun b0 hb0 => ?_)
        by_cases q : b0.id = x
        · have hin := (fnd_mem HHB.out).1
          have hid := (fnd_mem HHB.out).2
          have hb1 := (List.mem_filter.1 hin).1
          have e1 := fnd_of_mem S.gd.dis hb0
          have e2 := fnd_of_mem S.gd.dis hb1
          rw [q] at e1
          rw [hid, e1] at e2
          injection e2 with e2
          have hh0 : b0.ho = n := by rw [e2]; exact HHH.out
          simp [q, hh0]
        · have q1 : (b0.id != x) = true := by simpa using q
          have q2 : (b0.id == x) = false := by simpa using q
          rw [q1, q2]; simp
      have S8 : Sim s7 { W with L := W.L.filter (fun b => b.ho != n || (left b.id && !(b.id == x))) } (N + 1) := by
        rw [← hL7]; exact S7
      have N8 := N6.trans n7
      have hR8 := n7.none HR5.out hrg5.ne.2
      have H8 := Lib.hid h7
      have NN8 := Lib.hid N8
      have HS8 := Lib.hid S8
      have HP8 : Hid (∃ x', s7.ho.a n = some x' ∧ (fun z => (x'.bo.a z).map (fun _ => ptr (y1.bx z))) = updZ M5 x none) := Lib.hid ⟨x7, hx7a, hM7⟩
      have HG2 := Lib.hid hg2
      clear hx7 hx7a hx7b hR hrg5 hM7 hleft hd hL7 S7 S8 N6 N8 n7 h6 h7 hg2 HDR HS5 HHB HHH HX' HM5 HR5
      go_wp2_with fail
      go_roundg g2
      case measure => have := HG1.out; have := HG2.out; omega
      case rel => exact ⟨_, _, _, _, _, H8, NN8, Lib.hid hR8, HS8, HP8, hrg7⟩


end Go.Proofs.Ytgpookphacdgoaa.W.U
