/- The law TimerActs: which key its page says comes first. -/
import Derived.Test.YtkldoeillkfpbaaTimE
import Derived.Test.YtkldoeillkfpbaaRngT
namespace Go.Proofs.Ytkldoeillkfpbaa.W.HT
open Go.RowKit Go.Maps Go.ChangeMaps Go.MapKept

/-- Block b is such a map, block r goes through it: 'left' are still to come. -/
def Rc (P : Program) (t : TypeId) (w : World) (b r : Nat) (M : K → Option Value) (c : Nat) (left : K → Bool) (cnt : Nat) : Prop :=
  ∃ D lf n, w.ranges P t RV b r n D lf cnt ∧ Maps.size D = c ∧ (∀ x, kw x → Maps.has D (KS x) = (M x).isSome ∧ ∀ v, M x = some v → ∀ z, D.atKey (KS x) z = .held v) ∧ ∀ x, kw x → lf (KS x) = left x
theorem Rc.mp {P : Program} {t : TypeId} {w : World} {b r : Nat} {M : K → Option Value} {c : Nat} {left : K → Bool} {cnt : Nat} (h : Rc P t w b r M c left cnt) : Mp P t w b M c := by
  obtain ⟨D, lf, n, h1, h2, h3, _⟩ := h
  exact ⟨D, by rw [← h2]; exact tight h1.owns, h2, h3⟩
theorem Rc.kept {P : Program} {t : TypeId} {w w' : World} {b r : Nat} {M : K → Option Value} {c : Nat} {left : K → Bool} {cnt : Nat} {S : Nat → Prop} (h : Rc P t w b r M c left cnt) (ho : Only w w' S) (hb : ¬ S b) (hr : ¬ S r) : Rc P t w' b r M c left cnt := by
  obtain ⟨D, lf, n, h1, h2, h3, h4⟩ := h
  have hlb := h1.owns.lt
  have hlr := h1.lt
  refine ⟨D, lf, n, ?_, h2, h3, h4⟩
  obtain ⟨es, clock, since, seen, c0, a1, a2, a3, a4, a5, a6⟩ := h1
  exact ⟨es, clock, since, seen, c0, by rw [ho.block b hlb hb]; exact a1, a2, a3, a4, by rw [ho.block r hlr hr]; exact a5, a6⟩
theorem Rc.ne {P : Program} {t : TypeId} {w : World} {b r : Nat} {M : K → Option Value} {c : Nat} {left : K → Bool} {cnt : Nat} (h : Rc P t w b r M c left cnt) : r ≠ b ∧ r < w.heap.size := by
  obtain ⟨D, lf, n, h1, _⟩ := h; exact ⟨h1.ne, h1.lt⟩

section
variable {P : Program} {w : World} {ops : Array Oper} {rest : List Oper} {o : Oper} {a : Act} {Q : Exit → Act → World → Prop}
theorem wpList_rngc (hg : o.guard = none) (m : Operand) (t : TypeId) (hop : o.op = Op.range t m) (k e : TypeId) (hk : Kd P k) (ht : P.underlying t = some (.map k e)) (b : Nat) (M : K → Option Value) (c : Nat) (hm : a.eval m = .map (some b)) (h : Mp P k w b M c)
    (hK : ∀ w' cnt, Rc P k w' b w.heap.size M c (fun x => (M x).isSome) cnt → w.grownBy w' none → wpList P ops Q rest (a.put o.dst (.pointer (some ⟨w.heap.size, 0, none⟩))) w') : wpList P ops Q (o :: rest) a w := by
  obtain ⟨D, h1, h2, h3⟩ := h
  refine wpList_range_own w hg m t hop k e (hk.keyed) ht RV b c D hm h1 ?_
  intro w' h4 h5 _
  exact hK w' _ ⟨D, _, c, h4, h2, h3, fun x hx => (h3 x hx).1⟩ h5
theorem wpList_nxtc (hg : o.guard = none) (it : Operand) (hop : o.op = Op.next it false) (k : TypeId) (hk : Kd P k) (b r : Nat) (M : K → Option Value) (c : Nat) (left : K → Bool) (cnt : Nat) (hit : a.eval it = .pointer (some ⟨r, 0, none⟩)) (h : Rc P k w b r M c left cnt)
    (hDone : (∀ x, kw x → left x = false) → wpList P ops Q rest (a.put o.dst (.tuple #[.bool false])) w)
    (hMore : ∀ (x : K) (v : Value) (w' : World) (cnt' : Nat), cnt' < cnt → kw x → left x = true → M x = some v → Rc P k w' b r M c (fun z => left z && !(z == x)) cnt' → w.grownBy w' (some r) → (Instr.entry (.pointer (some ⟨r, 0, none⟩))).run P w' = .ok (.tuple #[kv x, v]) w' →
      wpList P ops Q rest (a.put o.dst (.tuple #[.bool true, kv x, v])) w') : wpList P ops Q (o :: rest) a w := by
  obtain ⟨D, lf, n, h1, h2, h3, h4⟩ := h
  refine wpList_next_ranges w hg it hop k (hk.keyed) RV kv (fun v : Value => v) (fun key kl hkey => by obtain ⟨x, rfl, _⟩ := hk.inv hkey; exact ⟨x, rfl⟩) (fun v _ _ => ⟨v, rfl⟩) b r n D lf cnt hit h1 ?_ ?_
  · intro _ hl
    exact hDone (fun x hx => by rw [← h4 x hx]; exact hl _)
  · intro x v kl y w' cnt' hkey hl hv hat h5 hlt h6 _ h7
    obtain ⟨x', ex, rfl, hwx⟩ := hk.inv hkey
    obtain rfl := kv_inj ex
    unfold RV at hv
    cases hv
    have hhas := Maps.has_true_of_atKey hat
    obtain ⟨g1, g2⟩ := h3 x hwx
    rw [hhas] at g1
    obtain ⟨v0, hv0⟩ := Option.isSome_iff_exists.1 g1.symm
    have : v = v0 := by
      have := g2 v0 hv0 (.held v)
      rw [hat] at this
      cases this; rfl
    subst this
    refine hMore x v w' cnt' hlt hwx (by rw [← h4 x hwx]; exact hl) hv0 ⟨D, _, n, h5, h2, h3, fun z hz => ?_⟩ h6 h7
    rw [h4 z hz]
    congr 1
    by_cases e : z = x
    · subst e; simp [KS, Lit.sameKey]
    · have ne : KS z ≠ KS x := fun q => e (hk.inj hz hwx q)
      rw [Maps.sameKey_ne ne]; simp [e]
end

theorem zeroL (w : World) : (zeroValue 2).run Try.prog w = .ok (.int .i64 0) w := by kernel_rfl
/-- What the page's map holds. -/
def MV (A : K → Option Int) : K → Option Value := fun z => (A z).map (fun v : Int => Value.int .i64 v)
theorem MV_set (A : K → Option Int) (k : K) (v : Int) : MV (updZ A k (some v)) = updZ (MV A) k (some (.int .i64 v)) := by funext z; unfold MV updZ; split <;> rfl
theorem MV_del (A : K → Option Int) (k : K) : MV (updZ A k none) = updZ (MV A) k none := by funext z; unfold MV updZ; split <;> rfl
theorem MV_at {A : K → Option Int} {k : K} {t : Int} (h : A k = some t) : MV A k = some (.int .i64 t) := by unfold MV; rw [h]; rfl
theorem MV_no {A : K → Option Int} {k : K} (h : A k = none) : MV A k = none := by unfold MV; rw [h]; rfl
theorem MV_is (A : K → Option Int) (k : K) : (MV A k).isSome = (A k).isSome := by unfold MV; cases A k <;> rfl
theorem MV_some {A : K → Option Int} {z : K} {v : Value} (h : MV A z = some v) : ∃ t, A z = some t ∧ v = .int .i64 t := by
  unfold MV at h
  cases e : A z with
  | none => rw [e] at h; cases h
  | some u => rw [e] at h; cases h; exact ⟨u, rfl, rfl⟩

set_option maxRecDepth 100000 in
set_option maxHeartbeats 1600000 in
theorem ahead_any (a b : K) (x y : Int) (w : World) :
    Calls Try.prog 32 #[kv a, kv b, .int .i64 x, .int .i64 y] w fun e w' => e = .returned (.bool (lt (x, a) (y, b))) ∧ Below w.heap.size w w' := by
  obtain ⟨a1, a2⟩ := a
  obtain ⟨b1, b2⟩ := b
  by_cases h : x = y
  · by_cases h' : a1 = b1
    · subst h h'
      rw [lt_id (x := (x, a1, a2)) (y := (x, a1, b2)) rfl rfl]
      go_enter Try.func32, Try.ntmps32
      go_wp2_with fail
      go_ret
      exact ⟨rfl, ((Below.refl _ _).alloc (Nat.le_refl _) _).alloc (by simp <;> omega) _⟩
    · subst h
      rw [lt_kind (x := (x, a1, a2)) (y := (x, b1, b2)) rfl h']
      have hq : (a1 == b1) = false := by simp [h']
      go_enter Try.func32, Try.ntmps32
      go_wp2_with fail
      go_ret
      exact ⟨rfl, ((Below.refl _ _).alloc (Nat.le_refl _) _).alloc (by simp <;> omega) _⟩
  · rw [lt_at (x := (x, a1, a2)) (y := (y, b1, b2)) h]
    have hq : (x == y) = false := by simp [h]
    go_enter Try.func32, Try.ntmps32
    go_wp2_with fail
    go_ret
    exact ⟨rfl, ((Below.refl _ _).alloc (Nat.le_refl _) _).alloc (by simp <;> omega) _⟩

/-- The best so far, of those that are no longer to come. -/
def Best (A : K → Option Int) (left : K → Bool) (best : K) (ok : Bool) : Prop :=
  (ok = false ∧ best = (0, 0) ∧ ∀ z t, A z = some t → left z = true) ∨ (ok = true ∧ ∃ t, A best = some t ∧ ∀ z t', A z = some t' → left z = false → lt (t', z) (t, best) = false)
/-- What First tells. -/
def Fi (A : K → Option Int) (k : K) (b : Bool) : Prop := (b = true ∧ ∃ t, Fst A k t) ∨ (b = false ∧ k = (0, 0) ∧ ∀ z, A z = none)
theorem lt_irr (a : V) : lt a a = false := decide_eq_false (by omega)
theorem lt_tr {a b c : V} (h : lt a b = false) (h' : lt c b = true) : lt a c = false := by
  have h1 := of_decide_eq_false h
  have h2 := of_decide_eq_true h'
  exact decide_eq_false (by omega)

set_option maxRecDepth 100000 in
set_option maxHeartbeats 3200000 in
theorem first_any (w : World) (mb n : Nat) (A : K → Option Int) (h : Mp Try.prog 30 w mb (MV A) n) (hA : ∀ z t, A z = some t → kw z) :
    Calls Try.prog 13 #[.map (some mb)] w fun e w' => ∃ (k : K) (b : Bool), e = .returned (.tuple #[kv k, .bool b]) ∧ Fi A k b ∧ Below w.heap.size w w' := by
  obtain ⟨MM, hMM⟩ : ∃ M, M = MV A := ⟨_, rfl⟩
  have hm : Mp Try.prog 30 w mb MM n := by rw [hMM]; exact h
  have HMM := Lib.hid hMM
  have HA := Lib.hid hA
  clear hMM hA h
  go_enter Try.func13, Try.ntmps13
  go_upto_region 3 with (fail)
  have o0 : Only w ((w.alloc (.cells #[.int .i64 0, .int .i64 0] 30)).alloc (.cells #[.int .i64 0, .int .i64 0] 30)) (fun _ => False) := ((Only.refl w _).alloc _).alloc _
  have HR0 : Hid (((w.alloc (.cells #[.int .i64 0, .int .i64 0] 30)).alloc (.cells #[.int .i64 0, .int .i64 0] 30)).heap[w.heap.size]? = some (.cells #[.int .i64 0, .int .i64 0] 30)) := Lib.hid ((Only.alloc (Only.refl (w.alloc (.cells #[.int .i64 0, .int .i64 0] 30)) (fun _ => False)) _).blk (fun q => q) (heap_alloc_new w _))
  have HB0 : Hid (((w.alloc (.cells #[.int .i64 0, .int .i64 0] 30)).alloc (.cells #[.int .i64 0, .int .i64 0] 30)).heap[w.heap.size + 1]? = some (.cells #[.int .i64 0, .int .i64 0] 30)) := Lib.hid (by have := heap_alloc_new (w.alloc (.cells #[.int .i64 0, .int .i64 0] 30)) (.cells #[.int .i64 0, .int .i64 0] 30); rwa [World.size_alloc] at this)
  have hm0 := hm.kept o0 (fun q => q)
  have hmlt := hm.lt
  generalize (w.alloc (.cells #[.int .i64 0, .int .i64 0] 30)).alloc (.cells #[.int .i64 0, .int .i64 0] 30) = w3 at o0 HR0 HB0 hm0 ⊢
  go_upto_region 4 with (first
    | (at_range; refine wpList_rngc rfl (.tmp 9) 26 rfl 30 2 kd Try.underlying26 mb _ n rfl hm0 ?_; intro w4 cnt hrg4 hg4))
  have o4 : Only w3 w4 (fun _ => False) := Only.grownN hg4
  have HR4 := Lib.hid (o4.blk (fun q => q) HR0.out)
  have HB4 := Lib.hid (o4.blk (fun q => q) HB0.out)
  have b4 : Below w.heap.size w w4 := (o0.tr o4).below (fun _ q => q.elim) (Nat.le_refl _)
  have hsz3 : w.heap.size + 1 < w3.heap.size := lt_of_row HB0.out
  obtain ⟨rb, hrb⟩ : ∃ rb, w3.heap.size = rb := ⟨_, rfl⟩
  obtain ⟨RR, hRR⟩ : ∃ R, w.heap.size = R := ⟨_, rfl⟩
  obtain ⟨bb, hbb⟩ : ∃ bb, w.heap.size + 1 = bb := ⟨_, rfl⟩
  have HNE := Lib.hid (show RR ≠ bb ∧ RR ≠ rb ∧ bb ≠ rb ∧ RR ≠ mb ∧ bb ≠ mb ∧ w.heap.size ≤ RR ∧ w.heap.size ≤ bb ∧ w.heap.size ≤ rb by omega)
  rw [hrb] at hrg4
  rw [hRR] at HR4
  rw [hbb] at HB4
  rw [hbb, hRR, hrb]
  clear hrb hRR hbb hsz3 o4 o0 HR0 HB0 hm0 hm hg4
  go_frame
  go_loopg [5] cnt (fun gk v5 wr => ∃ (left : K → Bool) (best : K) (okb : Bool), v5 = .bool okb ∧ Rc Try.prog 30 wr mb rb MM n left gk ∧ Hid (wr.heap[bb]? = some (.cells #[.int .i64 best.1, .int .i64 best.2] 30 (0, 0))) ∧ Hid (wr.heap[RR]? = some (.cells #[.int .i64 0, .int .i64 0] 30 (0, 0))) ∧ Hid (Best A left best okb) ∧ Below w.heap.size w wr)
  case atStart =>
    refine ⟨_, (0, 0), false, rfl, hrg4, HB4, HR4, Lib.hid (Or.inl ⟨rfl, rfl, fun z t q => ?_⟩), b4⟩
    show (MM z).isSome = true
    rw [HMM.out, MV_is, q]; rfl
  case round =>
    clear hrg4 b4 HR4 HB4
    obtain ⟨left, best, okb, rfl, hrg, HB, HR, HBE, bz⟩ := hrel
    go_wp2_with (at_next; refine wpList_nxtc rfl (.tmp 10) rfl 30 kd mb rb _ n left gk rfl hrg ?_ ?_)
    · intro hdone
      have y0 := cell_of_row _ _ 0 _ _ _ HB.out
      have y1 := cell_of_row _ _ 1 _ _ _ HB.out
      go_wp2_with (with_reducible refine wpList_store_key rfl (.tmp 2) (.tmp 28) rfl RR best.1 best.2 rfl rfl 0 0 HR ?_; intro w5 HB5 hg5)
      have o5 : Only wr w5 (fun j => w.heap.size ≤ j) := Only.grown hg5 (Or.inl HNE.out.2.2.2.2.2.1)
      have z0 := cell_of_row _ _ 0 _ _ _ HB5.out
      have z1 := cell_of_row _ _ 1 _ _ _ HB5.out
      refine bodyPost_ret (v := .tuple #[kv best, .bool okb]) (by simp [results, Try.results13, go_sem, z0, z1]) rfl ⟨best, okb, rfl, ?_, bz.trans (o5.below (fun _ q => q) bz.size)⟩
      rcases HBE.out with ⟨h1, h2, h3⟩ | ⟨h1, t, h2, h3⟩
      · refine Or.inr ⟨h1, h2, fun z => ?_⟩
        cases q : A z with
        | none => rfl
        | some t => have := h3 z t q; rw [hdone z.1 z.2 (HA.out z t q)] at this; cases this
      · exact Or.inl ⟨h1, t, h2, fun z t' q => h3 z t' q (hdone z.1 z.2 (HA.out z t' q))⟩
    · intro xa xb v w5 g1 hg1 hwx hlx hMx hrg5 hg5 hen
      generalize ((xa, xb) : K) = x at hwx hlx hMx hrg5 hen ⊢
      rw [HMM.out] at hMx
      obtain ⟨t, hAx, rfl⟩ := MV_some hMx
      have hO5 : Only wr w5 (fun j => j = rb) := Only.grown hg5 (Or.inl rfl)
      have b5 : Below w.heap.size w w5 := bz.trans (hO5.below (fun j e => by rw [e]; exact HNE.out.2.2.2.2.2.2.2) bz.size)
      have HB5 := Lib.hid (hO5.blk (fun q => HNE.out.2.2.1 q) HB.out)
      have HR5 := Lib.hid (hO5.blk (fun q => HNE.out.2.1 q) HR.out)
      have HAX := Lib.hid hAx
      have HLX := Lib.hid hlx
      have HG1 := Lib.hid hg1
      clear hMx hAx hlx hrg hO5 hg5 hg1
      go_upto_region 6 with (fail)
      have o6 : Only w5 (w5.alloc (.cells #[.int .i64 x.1, .int .i64 x.2] 30)) (fun _ => False) := (Only.refl w5 _).alloc _
      have HX6 := Lib.hid (heap_alloc_new w5 (.cells #[.int .i64 x.1, .int .i64 x.2] 30))
      have HB6 := Lib.hid (o6.blk (fun q => q) HB5.out)
      have HR6 := Lib.hid (o6.blk (fun q => q) HR5.out)
      have hrg6 := hrg5.kept o6 (fun q => q) (fun q => q)
      have b6 : Below w.heap.size w (w5.alloc (.cells #[.int .i64 x.1, .int .i64 x.2] 30)) := b5.alloc b5.size _
      clear HB HR HB5 HR5 hrg5 b5 hen
      generalize w5.alloc (.cells #[.int .i64 x.1, .int .i64 x.2] 30) = w6 at o6 HX6 HB6 HR6 hrg6 b6 ⊢
      generalize w5.heap.size = H at HX6 ⊢
      have x0 := cell_of_row _ _ 0 _ _ _ HX6.out
      have x1 := cell_of_row _ _ 1 _ _ _ HX6.out
      have e0 := cell_of_row _ _ 0 _ _ _ HB6.out
      have e1 := cell_of_row _ _ 1 _ _ _ HB6.out
      have better : (∀ tb, A best = some tb → lt (t, x) (tb, best) = true ∨ okb = false) → Best A (fun z => left z && !(z == x)) x true := by
        intro hlt
        refine Or.inr ⟨rfl, t, HAX.out, fun z t' hz hl => ?_⟩
        have hl' : (left z && !(z == x)) = false := hl
        by_cases e : z = x
        · subst e; rw [HAX.out] at hz; cases hz; exact lt_irr _
        · have hlz : left z = false := by simpa [e] using hl'
          rcases HBE.out with ⟨h1, h2, h3⟩ | ⟨h1, tb, h2, h3⟩
          · rw [h3 z t' hz] at hlz; cases hlz
          · rcases hlt tb h2 with q | q
            · exact lt_tr (h3 z t' hz hlz) q
            · rw [h1] at q; cases q
      have HBET := Lib.hid better
      clear better
      rcases HBE.out with ⟨rfl, hb0, _⟩ | ⟨rfl, tb, hAb, hbl⟩
      · go_quiet (fail)
        have oq : Only w6 (w6.drewN nq) (fun _ => False) := (Only.refl w6 _).drewN nq
        have HX7 := Lib.hid (oq.blk (fun q => q) HX6.out)
        have HB7 := Lib.hid (oq.blk (fun q => q) HB6.out)
        have HR7 := Lib.hid (oq.blk (fun q => q) HR6.out)
        have hrg7 := hrg6.kept oq (fun q => q) (fun q => q)
        have b7 : Below w.heap.size w (w6.drewN nq) := below_drewN b6 nq
        clear x0 x1 e0 e1
        generalize w6.drewN nq = w7 at HX7 HB7 HR7 hrg7 b7 ⊢
        have x0 := cell_of_row _ _ 0 _ _ _ HX7.out
        have x1 := cell_of_row _ _ 1 _ _ _ HX7.out
        go_wp2_with (with_reducible refine wpList_store_key rfl (.tmp 4) (.tmp 27) rfl bb x.1 x.2 rfl rfl best.1 best.2 HB7 ?_; intro w8 HB8 hg8)
        have o8 : Only w7 w8 (fun j => j = bb) := Only.grown hg8 (Or.inl rfl)
        go_roundg g1
        case measure => exact HG1.out
        case rel => exact ⟨_, x, true, rfl, hrg7.kept o8 (fun q => HNE.out.2.2.2.2.1 q.symm) (fun q => HNE.out.2.2.1 q.symm), HB8, Lib.hid (o8.blk HNE.out.1 HR7.out), Lib.hid (HBET.out (fun _ _ => Or.inr (by trivial))), b7.trans (o8.below (fun j q => by rw [q]; exact HNE.out.2.2.2.2.2.2.1) b7.size)⟩
      · have hwb := HA.out best tb hAb
        have hMb : MM best = some (.int .i64 tb) := by rw [HMM.out]; exact MV_at hAb
        have HMB := Lib.hid hMb
        have HAB := Lib.hid hAb
        have HBL := Lib.hid hbl
        have hrun : ∀ y, (Instr.lookup 26 (.map (some mb)) (.agg #[.int .i64 best.1, .int .i64 best.2]) false).run Try.prog (w6.drewN y) = .ok (.int .i64 tb) (w6.drewN y) := fun y => by rw [(hrg6.mp.kept ((Only.refl w6 (fun _ => False)).drewN y) (fun q => q)).run_at kd Try.underlying26 (zeroL _) hwb]; simp [HMB.out]
        have hrun1 : (Instr.lookup 26 (.map (some mb)) (.agg #[.int .i64 best.1, .int .i64 best.2]) false).run Try.prog w6.drew = .ok (.int .i64 tb) w6.drew := hrun 1
        have hrun0 : (Instr.lookup 26 (.map (some mb)) (.agg #[.int .i64 best.1, .int .i64 best.2]) false).run Try.prog w6 = .ok (.int .i64 tb) w6 := hrun 0
        clear hMb hAb hbl
        go_still_tail 9, (by kernel_rfl)
        change wpList _ _ _ _ _ w6.drew
        have oq : Only w6 w6.drew (fun _ => False) := (Only.refl w6 _).drewN 1
        have HX7 := Lib.hid (oq.blk (fun q => q) HX6.out)
        have HB7 := Lib.hid (oq.blk (fun q => q) HB6.out)
        have HR7 := Lib.hid (oq.blk (fun q => q) HR6.out)
        have hrg7 := hrg6.kept oq (fun q => q) (fun q => q)
        have b7 : Below w.heap.size w w6.drew := below_drewN b6 1
        clear x0 x1 e0 e1 hrun hrun1 hrun0
        generalize w6.drew = w7 at HX7 HB7 HR7 hrg7 b7 ⊢
        go_wp2_with fail
        refine (ahead_any x best t tb w7).mono ?_
        rintro e w8 ⟨rfl, b8⟩
        have o8 : Only w7 w8 (fun _ => False) := Only.of_below b8
        have HX8 := Lib.hid (o8.blk (fun q => q) HX7.out)
        have HB8 := Lib.hid (o8.blk (fun q => q) HB7.out)
        have HR8 := Lib.hid (o8.blk (fun q => q) HR7.out)
        have hrg8 := hrg7.kept o8 (fun q => q) (fun q => q)
        have b9 : Below w.heap.size w w8 := b7.trans (b8.mono b7.size)
        clear HX7 HB7 HR7 hrg7 b7 b8 o8 hrg6
        have x0 := cell_of_row _ _ 0 _ _ _ HX8.out
        have x1 := cell_of_row _ _ 1 _ _ _ HX8.out
        cases hlt : lt (t, x) (tb, best) with
        | true =>
          have HLT := Lib.hid hlt
          clear hlt
          go_wp2_with (with_reducible refine wpList_store_key rfl (.tmp 4) (.tmp 27) rfl bb x.1 x.2 rfl rfl best.1 best.2 HB8 ?_; intro w9 HB9 hg9)
          have o9 : Only w8 w9 (fun j => j = bb) := Only.grown hg9 (Or.inl rfl)
          go_roundg g1
          case measure => exact HG1.out
          case rel => exact ⟨_, x, true, rfl, hrg8.kept o9 (fun q => HNE.out.2.2.2.2.1 q.symm) (fun q => HNE.out.2.2.1 q.symm), HB9, Lib.hid (o9.blk HNE.out.1 HR8.out), Lib.hid (HBET.out (fun tb' q => Or.inl (by rw [HAB.out] at q; cases q; exact HLT.out))), b9.trans (o9.below (fun j q => by rw [q]; exact HNE.out.2.2.2.2.2.2.1) b9.size)⟩
        | false =>
          have HLT := Lib.hid hlt
          clear hlt
          go_wp2_with fail
          go_roundg g1
          case measure => exact HG1.out
          case rel =>
            refine ⟨_, best, true, rfl, hrg8, HB8, HR8, Lib.hid (Or.inr ⟨rfl, tb, HAB.out, fun z t' hz hl => ?_⟩), b9⟩
            have hl' : (left z && !(z == x)) = false := hl
            by_cases e : z = x
            · subst e; rw [HAX.out] at hz; cases hz; exact HLT.out
            · have hlz : left z = false := by simpa [e] using hl'
              exact HBL.out z t' hz hlz
end Go.Proofs.Ytkldoeillkfpbaa.W.HT
