/- The law TimerSteps. -/
import Derived.Test.YtkldoeillkfpbaaTimE
import Derived.Test.YtkldoeillkfpbaaActs
namespace Go.Proofs.Ytkldoeillkfpbaa.W.HT
open Go.RowKit

theorem T2.start {S0 : Nat} {w1 w2 w3 : World} (hs : S0 ≤ w1.heap.size) (h2 : Tx w2 w1.heap.size 0 (fun _ => none) (fun j => j = w1.heap.size)) (b2 : Below w1.heap.size w1 w2) (h3 : Tx w3 w2.heap.size 0 (fun _ => none) (fun j => j = w2.heap.size)) (b3 : Below w2.heap.size w2 w3) :
    T2 S0 (fun _ => False) w3 w1.heap.size w2.heap.size 0 0 (fun _ => none) (fun _ => none) := by
  have := h2.lt
  have := b2.size
  have := b3.size
  exact ⟨_, h2.below b3, fun j q => ⟨by omega, fun q => q⟩, by omega, fun _ q => q.elim, _, h3, fun j q => ⟨by omega, fun q' => q'.elim id (fun q' => by omega)⟩, by omega, fun j q => q.elim (fun q => q.elim) (fun q => by omega)⟩

/-- append of items, which lie in a slice: to one that is not nil. -/
theorem wpList_item_appN {I : Type} {ic : I → List Value} {sz : Nat} {t : TypeId} {w : World} {P : Program} {ops : Array Oper} {rest : List Oper} {o : Oper} {a : Act} {Q : Exit → Act → World → Prop} (E : Enc ic sz) (hgd : o.guard = none) (s x : Operand) (ty : TypeId) (ho : o.op = .call { callee := .builtin .append, args := #[s, x], argTypes := #[ty, ty] })
    (i : TypeInfo) (z : Value) (bytes : Nat) (ht : P.underlying ty = some (.slice t)) (hi : P.info? t = some i) (hz : i.zero = some z) (hsize : i.size = sz) (hby : i.bytes = bytes) (hzs : z.cells.size = sz)
    (g0 n cap0 : Nat) (T : Nat → I) (hs : a.eval s = .slice (some ⟨g0, 0, none⟩) n cap0) (hrow : Row ic sz t w g0 n cap0 T) (sv : Value) (G : Option Nat) (m : Nat) (T' : Nat → I) (hx : a.eval x = sv) (hits : Its ic sz t w sv G m T') (hn : n + m ≤ maxLen) (hbytes : (n + m) * bytes ≤ 140737488355328)
    (h : ∀ g cap w', Row ic sz t w' g (n + m) cap (fun j => if j < n then T j else T' (j - n)) → Only w w' (fun j => j = g0) → (g = g0 ∨ w.heap.size ≤ g) → wpList P ops Q rest (a.put o.dst (.slice (some ⟨g, 0, none⟩) (n + m) cap)) w') : wpList P ops Q (o :: rest) a w := by
  rcases hits with ⟨_, rfl, rfl⟩ | ⟨g1, c1, _, rfl, hr1⟩
  · refine wpList_plain hgd fun K hK => ?_
    have hnc := hrow.cap_.1
    have hrun : (Builtin.append_ #[ty, ty] o.type #[.slice (some ⟨g0, 0, none⟩) n cap0, .slice none 0 0]).run P w = .ok (.slice (some ⟨g0, 0, none⟩) n cap0) w := by
      simp [Builtin.append_, run_underlying ht, sizeOf, typeInfo, hi, Builtin.lenOf, Builtin.firstCells, hnc, storeCells]
    unfold Oper.wp
    simp [execOp, ho, resolve, invoke, builtin, hs, hx, hrun, Result.andThen]
    exact hK _ _ (h g0 cap0 w (hrow.ext (fun j hj => by rw [if_pos hj])) (Only.refl _ _) (Or.inl rfl))
  · rcases Nat.eq_zero_or_pos m with rfl | hm
    · refine wpList_append_fits w hgd s x ty ho 0 t i sz ht hi hsize g0 n cap0 (flat ic T n) hs (hrow.owns E) ⟨g1, 0, none⟩ 0 c1 [] hx (by simp) (by simp) (by simp) (by have := hrow.cap_.1; omega) ?_
      intro w' h2 h3
      refine h g0 cap0 w' (Row.of_owns E ?_) (Only.grown h3 (Or.inl rfl)) (Or.inl rfl)
      simp only [List.append_nil, Nat.add_zero] at h2 ⊢
      rw [flat_ext (T' := fun j => if j < n then T j else T' (j - n)) (T := T) (fun j hj => if_pos hj)]; exact h2
    · refine wpList_append_lies w hgd s x ty ho 0 t i z sz bytes ht hi hz hsize hby hzs E.pos _ n (flat ic T n) hs (hrow.owns E) ⟨g1, 0, none⟩ m c1 (flat ic T' m) hx (flat_len E T' m) ?_ ?_ hm hn hbytes (Nat.zero_le _) _ rfl ?_
      · intro j v hv
        have hj := (List.getElem?_eq_some_iff.1 hv).1
        rw [flat_len E] at hj
        have hs := E.pos
        have hk : j = j / sz * sz + j % sz := by rw [Nat.mul_comm]; exact (Nat.div_add_mod j sz).symm
        have hjm : j / sz < m := (Nat.div_lt_iff_lt_mul hs).2 hj
        have hc : j % sz < sz := Nat.mod_lt _ hs
        rw [hk, flat_at E T' m _ _ hjm hc] at hv
        rw [Addr.add_mid]
        exact hr1.cell hjm hv (by omega)
      · intro u hu
        unfold flat at hu
        obtain ⟨j, _, hj⟩ := List.mem_flatMap.1 hu
        exact E.one _ u hj
      · intro g cap w' h1 h2 h3 h4
        refine h g cap w' (Row.of_owns E ?_) (Only.grown h2 (Or.inl rfl)) ?_
        · have : flat ic (fun j => if j < n then T j else T' (j - n)) (n + m) = flat ic T n ++ flat ic T' m := by
            have key : ∀ m, flat ic (fun j => if j < n then T j else T' (j - n)) (n + m) = flat ic T n ++ flat ic T' m := by
              intro m
              induction m with
              | zero => rw [Nat.add_zero, flat_ext (T' := fun j => if j < n then T j else T' (j - n)) (T := T) (fun j hj => if_pos hj)]; simp [flat]
              | succ m ih =>
                rw [← Nat.add_assoc, flat_succ, flat_succ, ih, if_neg (by omega), show n + m - n = m by omega, List.append_assoc]
            exact key m
          rw [this]; exact h1
        · rcases h3 with h3 | h3
          · simp [Value.ownBlock] at h3; exact Or.inl h3.symm
          · exact Or.inr (by omega)
/-- Other boxes. -/
theorem T1.turn {S0 : Nat} {L S : Nat → Prop} {w w' : World} {c n : Nat} {A : K → Option Int} (h : T1 S0 L w c n A) (ho : Only w w' S) (hS : ∀ j, S j → L j ∨ w.heap.size ≤ j) (L' : Nat → Prop) (hL : ∀ j, L' j → L j ∨ w.heap.size ≤ j) (hl : ∀ j, L' j → j < w'.heap.size) : T1 S0 L' w' c n A := by
  obtain ⟨X, h1, h2, h3, h4⟩ := h
  have hno : ∀ j, X j → ¬ (L j ∨ w.heap.size ≤ j) := fun j q q' => q'.elim (h2 j q).2 (fun q' => by have := h1.2 j q; omega)
  exact ⟨X, h1.kept ho (fun j q q' => hno j q (hS j q')), fun j q => ⟨(h2 j q).1, fun q' => hno j q (hL j q')⟩, Nat.le_trans h3 ho.size, hl⟩
theorem T2.turn {S0 : Nat} {L S : Nat → Prop} {w w' : World} {a b na nb : Nat} {A B : K → Option Int} (h : T2 S0 L w a b na nb A B) (ho : Only w w' S) (hS : ∀ j, S j → L j ∨ w.heap.size ≤ j) (L' : Nat → Prop) (hL : ∀ j, L' j → L j ∨ w.heap.size ≤ j) (hl : ∀ j, L' j → j < w'.heap.size) : T2 S0 L' w' a b na nb A B := by
  obtain ⟨X, h1, h2, h3, h4, h5⟩ := h
  have hno : ∀ j, X j → ¬ (L j ∨ w.heap.size ≤ j) := fun j q q' => q'.elim (h2 j q).2 (fun q' => by have := h1.2 j q; omega)
  refine ⟨X, h1.kept ho (fun j q q' => hno j q (hS j q')), fun j q => ⟨(h2 j q).1, fun q' => hno j q (hL j q')⟩, Nat.le_trans h3 ho.size, hl, h5.turn ho (fun j q => (hS j q).imp Or.inl id) _ (fun j q => ?_) (fun j q => ?_)⟩
  · rcases q with q | q
    · exact (hL j q).imp Or.inl id
    · exact Or.inl (Or.inr q)
  · rcases q with q | q
    · exact hl j q
    · exact Nat.lt_of_lt_of_le (h1.2 j q) ho.size
/-- A mask's number. -/
theorem wfS {x : Int} (h0 : 0 ≤ x) (h1 : x ≤ 65536) : (Lit.int .i64 x).wf = true := Go.WalkArith.wf_i64 ⟨by omega, by omega⟩

set_option maxRecDepth 100000 in
set_option maxHeartbeats 3200000 in
theorem steps_walk (a0 a1 : Option Addr) (k k' cap0 cap1 : Nat) (xs ts : List Int) (hl0 : xs.length = k) (_hc0 : k ≤ cap0) (hl1 : ts.length = k') (_hc1 : k' ≤ cap1) (w : World) (L0 : Lies w w.heap.size a0 (ints xs)) (L1 : Lies w w.heap.size a1 (ints ts)) :
    Calls Try.prog 4 #[.slice a0 k cap0, .slice a1 k' cap1] w fun e w' => e = .returned (.bool true) ∧ Below w.heap.size w w' := by
  have HL0 := Lib.hid hl0
  have HL1 := Lib.hid hl1
  clear hl0 hl1
  by_cases hk : 60 < k
  · have hki : decide ((60 : Int) < (k : Int)) = true := by simp; omega
    go_enter Try.func4, Try.ntmps4
    go_wp2_with fail
    refine (head14 _).mono ?_
    rintro e w1 ⟨rfl, b1⟩
    go_wp2_with fail
    go_ret
    exact ⟨rfl, b1⟩
  by_cases hk2 : k' < k
  · have hki : decide ((60 : Int) < (k : Int)) = false := by simp; omega
    have hkj : decide ((k' : Int) < (k : Int)) = true := by simp; omega
    go_enter Try.func4, Try.ntmps4
    go_wp2_with fail
    refine (head14 _).mono ?_
    rintro e w1 ⟨rfl, b1⟩
    go_wp2_with fail
    go_ret
    exact ⟨rfl, b1⟩
  have hki : decide ((60 : Int) < (k : Int)) = false := by simp; omega
  have hkj : decide ((k' : Int) < (k : Int)) = false := by simp; omega
  go_enter Try.func4, Try.ntmps4
  go_wp2_with fail
  refine (head14 _).mono ?_
  rintro e w1 ⟨rfl, b1⟩
  go_wp2_with fail
  refine (x_new w1).mono ?_
  rintro e w2 ⟨rfl, h2, b2⟩
  go_wp2_with fail
  refine (x_new w2).mono ?_
  rintro e w3 ⟨rfl, h3, b3⟩
  have hT := T2.start (S0 := w.heap.size) b1.size h2 b2 h3 b3
  have b4 : Below w.heap.size w w3 := b1.trans ((b2.trans (b3.mono b2.size)).mono b1.size)
  obtain ⟨a, ha⟩ : ∃ a, w1.heap.size = a := ⟨_, rfl⟩
  obtain ⟨b, hb⟩ : ∃ b, w2.heap.size = b := ⟨_, rfl⟩
  rw [ha, hb] at hT
  rw [ha, hb]
  clear ha hb h2 h3 b1 b2 b3 hki hkj
  go_wp2_with fail
  go_loopg [30] k (fun gk vi wr => ∃ (i n : Nat) (A : K → Option Int), vi = .int .i64 (i : Int) ∧ i + gk = k ∧ T2 w.heap.size (fun _ => False) wr a b n n A A ∧ Hid (n ≤ i) ∧ Hid (∀ z t, A z = some t → 0 ≤ t ∧ t ≤ 63) ∧ Below w.heap.size w wr)
  case atStart => exact ⟨0, 0, _, rfl, by omega, hT, Lib.hid (Nat.le_refl _), Lib.hid (fun _ _ q => nomatch q), b4⟩
  case round =>
    clear hT b4
    obtain ⟨i, n, A, rfl, hik, hT, HN, HA, bz⟩ := hrel
    have HIK := Lib.hid hik
    by_cases hi : i < k
    · obtain ⟨ad, x, ha, hab, hx, cx⟩ := (L0.below bz (Nat.le_refl _)).int (i := i) (by rw [HL0.out]; exact hi)
      subst ha
      have hii : (i : Int) < (k : Int) := by omega
      clear hik hx
      go_upto_region 11 with (fail)
      obtain ⟨p, hp, hp4⟩ := and_nat x 3 2 4 (by decide) (by decide) (by decide)
      obtain ⟨q, hq, hq4⟩ := and_nat (x / 4) 31 5 32 (by decide) (by decide) (by decide)
      obtain ⟨pI, hpI⟩ : ∃ y : Int, y = (p : Int) := ⟨_, rfl⟩
      obtain ⟨qI, hqI⟩ : ∃ y : Int, y = (q : Int) := ⟨_, rfl⟩
      rw [hp, hq, ← hpI, ← hqI]
      have hkw : kw (pI, qI) := ⟨wfS (by omega) (by omega), wfS (by omega) (by omega)⟩
      clear hp hq hpI hqI hp4 hq4 cx
      obtain ⟨at1, y, ha1, hab1, hy, cy⟩ := (L1.below bz (Nat.le_refl _)).int (i := i) (by rw [HL1.out]; omega)
      subst ha1
      have hij : (i : Int) < (k' : Int) := by omega
      obtain ⟨t, ht, ht4⟩ := and_nat y 63 6 64 (by decide) (by decide) (by decide)
      obtain ⟨tI, htI⟩ : ∃ y : Int, y = (t : Int) := ⟨_, rfl⟩
      rw [← htI] at ht
      have htw : (Lit.int .i64 tI).wf = true := wfS (by omega) (by omega)
      have HT6 := Lib.hid (show 0 ≤ tI ∧ tI ≤ 63 by omega)
      clear hy htI ht4
      have oB : Only wr (wr.alloc (.cells #[.int .i64 pI, .int .i64 qI] 30)) (fun _ => False) := (Only.refl wr _).alloc _
      have HB := Lib.hid (heap_alloc_new wr (.cells #[.int .i64 pI, .int .i64 qI] 30))
      have hT1 := hT.more oB (fun j => j = wr.heap.size) (fun j q => Or.inr (by omega)) (fun j q => by rw [q]; exact lt_of_row HB.out)
      have cy1 := oB.cell (fun q => q) cy
      have bB : Below w.heap.size w (wr.alloc (.cells #[.int .i64 pI, .int .i64 qI] 30)) := bz.alloc bz.size _
      have hHw : w.heap.size ≤ wr.heap.size := bz.size
      obtain ⟨H, hH⟩ : ∃ H, wr.heap.size = H := ⟨_, rfl⟩
      rw [hH] at HB hT1 hHw
      rw [hH]
      clear cy hT oB hH
      generalize wr.alloc (.cells #[.int .i64 pI, .int .i64 qI] 30) = w4 at HB hT1 cy1 bB ⊢
      have e0 := cell_of_row _ _ 0 _ _ _ HB.out
      have e1 := cell_of_row _ _ 1 _ _ _ HB.out
      have hn1 : n < 1073741823 := by have := HN.out; omega
      obtain ⟨n', hn'⟩ : ∃ n', n' = if (A (pI, qI)).isSome then n else n + 1 := ⟨_, rfl⟩
      have hnle : n' ≤ i + 1 := by rw [hn']; have := HN.out; split <;> omega
      have HN' := Lib.hid hn'
      clear hn'
      go_still_tail 7, (by kernel_rfl)
      change wpList _ _ _ _ _ w4.drew
      have oD : Only w4 w4.drew (fun _ => False) := (Only.refl w4 _).drewN 1
      have hT2 := hT1.kept oD (fun _ q => q.elim)
      have cy2 := oD.cell (fun q => q) cy1
      have HB2 := Lib.hid (oD.blk (fun q => q) HB.out)
      have bD : Below w.heap.size w w4.drew := below_drewN bB 1
      clear e0 e1 cy1 oD hT1
      generalize w4.drew = w5 at hT2 cy2 HB2 bD ⊢
      go_wp2_with fail
      refine (p_set w5 a b n n A A (pI, qI) tI hT2 hkw htw hn1 n' HN'.out).mono ?_
      rintro e w6 ⟨rfl, hT3, o6⟩
      have cy3 := o6.cell (fun q => by have : (at1.add i).block = at1.block := by unfold Addr.add; split <;> simp_all
                                       omega) cy2
      have HB3 := Lib.hid (o6.blk (fun q => q.2 rfl) HB2.out)
      have b6 : Below w.heap.size w w6 := bD.trans (Fr.below o6 bD.size)
      clear cy2 HB2 HB hT2
      have e0 := cell_of_row _ _ 0 _ _ _ HB3.out
      have e1 := cell_of_row _ _ 1 _ _ _ HB3.out
      go_upto_region 12 with (fail)
      go_still_tail 7, (by kernel_rfl)
      change wpList _ _ _ _ _ w6.drew
      have hT4 := hT3.kept ((Only.refl w6 (fun _ => False)).drewN 1) (fun _ q => q.elim)
      have bE : Below w.heap.size w w6.drew := below_drewN b6 1
      change T2 _ _ w6.drew _ _ _ _ _ _ at hT4
      clear e0 e1 cy3 hT3
      generalize w6.drew = w7 at hT4 bE ⊢
      go_wp2_with fail
      refine (p_set w7 b a n n' A _ (pI, qI) tI hT4.swap hkw htw hn1 n' HN'.out).mono ?_
      rintro e w8 ⟨rfl, hT5, o8⟩
      have b8 : Below w.heap.size w w8 := bE.trans (Fr.below o8 bE.size)
      go_wp2_with fail
      go_roundg (gk - 1)
      case measure => have := HIK.out; omega
      case rel =>
        refine ⟨i + 1, n', _, by go_num, by have := HIK.out; omega, hT5.swap.less (fun _ q => q.elim), Lib.hid hnle, Lib.hid (fun z u q => ?_), b8⟩
        by_cases e : z = (pI, qI)
        · rw [e, updZ_same] at q; cases q; exact HT6.out
        · rw [updZ_ne _ _ e] at q; exact HA.out z u q
    · obtain rfl : i = k := by omega
      clear hik HIK hi
      have hn1 : n < 1073741824 := by have := HN.out; omega
      go_wp2_with fail
      refine (p_due wr a b n n A A 63 hn1 hT).mono ?_
      rintro e w4 ⟨svx, Gx, m, na, Fx, C, rfl, itx, hTx, hlx, hnx, hT2, hGx, o4⟩
      have b4 : Below w.heap.size w w4 := bz.trans (Fr.below o4 bz.size)
      have hC0 : C = fun _ => none := by
        funext z
        cases q : C z with
        | none => rfl
        | some t => have h1 := hlx z t q; have h2 := (HA.out z t (hTx.sub q)).2; omega
      subst hC0
      have hna : na = 0 := by
        obtain ⟨X, hX⟩ := hT2.fst
        rcases Nat.eq_zero_or_pos na with q | q
        · exact q
        · obtain ⟨z, t, q⟩ := hX.1.some_ q; cases q
      subst hna
      obtain rfl : n = m := by omega
      have hGS : ∀ g, Gx = some g → w.heap.size ≤ g := fun g q => Nat.le_trans bz.size (hGx g q)
      have HGS := Lib.hid hGS
      clear hlx hnx hGx o4 hT hGS
      go_upto_region 16 with (fail)
      have oY : Only w4 (w4.alloc (.cells #[] 30)) (fun _ => False) := (Only.refl w4 _).alloc _
      have hrY : Row kc 2 30 (w4.alloc (.cells #[] 30)) w4.heap.size 0 0 (fun _ => (0, 0)) := ⟨[], heap_alloc_new w4 _, rfl, Nat.le_refl _, by decide, fun j hj => absurd hj (by omega)⟩
      have itY := itx.kept oY (fun _ _ q => q)
      have hTY := (hT2.more oY (fun j => Gx = some j ∨ j = w4.heap.size) (fun j q => q.elim (fun q => Or.inl (Or.inr q)) (fun q => Or.inr (by omega))) (fun j q => q.elim (fun q => Nat.lt_of_lt_of_le (itx.lt j q) oY.size) (fun q => by rw [q]; exact hrY.lt))).swap
      have bY : Below w.heap.size w (w4.alloc (.cells #[] 30)) := b4.alloc b4.size _
      have HGY := Lib.hid (show ¬ Gx = some w4.heap.size ∧ w.heap.size ≤ w4.heap.size from ⟨fun q => Nat.lt_irrefl _ (itx.lt _ q), b4.size⟩)
      obtain ⟨g0, hg0⟩ : ∃ g0, w4.heap.size = g0 := ⟨_, rfl⟩
      rw [hg0] at hrY hTY HGY
      rw [hg0]
      clear hg0 oY hT2 itx b4 bz
      generalize w4.alloc (.cells #[] 30) = w5 at hrY itY hTY bY ⊢
      obtain ⟨iT, hi1, hi2, hi3, hi4⟩ := info3 infoK
      have hml : (1073741824 : Nat) < maxLen := by decide
      go_wp2_with fail
      go_loopg [11, 12] 64 (fun gk v11 v12 wr => ∃ (p q nb g cap : Nat) (Fy : Nat → K) (C : K → Option Int), v11 = .slice (some ⟨g, 0, none⟩) q cap ∧ v12 = .int .i64 (p : Int) ∧ p + gk = 64 ∧ Row kc 2 30 wr g q cap Fy ∧ Tk A 63 q Fy C ∧ Hid (n = nb + q) ∧ Hid (∀ z t, C z = some t → (p : Int) ≤ t) ∧ T2 w.heap.size (fun j => Gx = some j ∨ j = g) wr b a nb 0 C (fun _ => none) ∧ Its kc 2 30 wr svx Gx n Fx ∧ Hid (¬ Gx = some g ∧ w.heap.size ≤ g) ∧ Below w.heap.size w wr)
      case atStart => exact ⟨0, 0, n, g0, 0, _, A, rfl, rfl, by omega, hrY, Tk.nil A 63 _, Lib.hid rfl, Lib.hid (fun z t q => (HA.out z t q).1), hTY, itY, HGY, bY⟩
      case round =>
        clear hrY itY hTY bY HGY
        obtain ⟨p, q, nb, g, cap, Fy, C, rfl, rfl, hpk, hrow, hTk, HNB, HC, hT, itx, HG, bz⟩ := hrel
        have HPK := Lib.hid hpk
        have hq60 : q ≤ 60 := by have := HNB.out; have := HN.out; omega
        by_cases hp : p < 64
        · have hpi : (p : Int) < 64 := by omega
          have hnb : nb < 1073741824 := by have := HNB.out; omega
          clear hpk
          go_wp2_with fail
          refine (p_due wr b a nb 0 C _ (p : Int) hnb hT).mono ?_
          rintro e w6 ⟨sv2, G2, m2, n2, F2, C2, rfl, its2, hTk2, hl2, hn2, hT6, hG2, o6⟩
          have row6 := hrow.kept o6 (fun q => q.2 (Or.inr rfl))
          have itx6 := itx.kept o6 (fun g h q => q.2 (Or.inl h))
          have b6 : Below w.heap.size w w6 := bz.trans (Fr.below o6 bz.size)
          have hm2 : q + m2 ≤ 60 := by have := HNB.out; have := HN.out; omega
          have hnm : q + m2 ≤ maxLen := by omega
          have hnb2 : (q + m2) * 16 ≤ 140737488355328 := by omega
          go_wp2_with (at_builtin; refine wpList_item_appN encK rfl (.tmp 65) (.tmp 68) 36 rfl iT (.agg #[.int .i64 0, .int .i64 0]) 16 Try.underlying36 hi1 hi2 hi3 hi4 rfl g q cap Fy rfl row6 sv2 G2 m2 F2 rfl its2 hnm hnb2 ?_; intro g7 cap7 w7 row7 o7 hg7)
          have hGg := HG.out
          have o7' : Only w6 w7 (fun j => w.heap.size ≤ j) := o7.mono (fun j q => by rw [q]; exact hGg.2)
          go_roundg (64 - (p + 1))
          case measure => have := HPK.out; omega
          case rel =>
            refine ⟨p + 1, q + m2, n2, g7, cap7, _, C2, rfl, by go_num, by omega, row7, hTk.cat (hTk2.mono (by omega)), Lib.hid (by have := HNB.out; omega), Lib.hid (fun z t h => by have := hl2 z t h; omega), hT6.turn o7 (fun j q => Or.inl (Or.inl (Or.inr q))) _ ?_ ?_, itx6.kept o7 (fun g' h q => hGg.1 (by rw [← q]; exact h)), Lib.hid ?_, b6.trans (o7'.below (fun _ q => q) b6.size)⟩
            · rintro j (h | h)
              · exact Or.inl (Or.inl (Or.inl h))
              · rcases hg7 with h7 | h7
                · exact Or.inl (Or.inl (Or.inr (by rw [h, h7])))
                · exact Or.inr (by omega)
            · rintro j (h | h)
              · exact Nat.lt_of_lt_of_le (itx6.lt j h) o7.size
              · rw [h]; exact row7.lt
            · rcases hg7 with h7 | h7
              · rw [h7]; exact hGg
              · exact ⟨fun h => by have := itx6.lt _ h; omega, by have := b6.size; omega⟩
        · obtain rfl : p = 64 := by omega
          clear hpk HPK hp
          have hC0 : C = fun _ => none := by
            funext z
            cases h : C z with
            | none => rfl
            | some t => have h1 := HC.out z t h; have h2 := (HA.out z t (hTk.sub h)).2; omega
          subst hC0
          have hnb0 : nb = 0 := by
            obtain ⟨X, hX⟩ := hT.fst
            rcases Nat.eq_zero_or_pos nb with h | h
            · exact h
            · obtain ⟨z, t, h⟩ := hX.1.some_ h; cases h
          subst hnb0
          obtain rfl : n = q := by have := HNB.out; omega
          have HSM := Lib.hid (hTx.same hTk)
          obtain ⟨sA, scap, rfl, hsc1, hsc2⟩ := itx.slice
          clear HNB HC hTk hTx
          go_wp2_with fail
          refine (p_len wr a b 0 0 _ _ hT.swap).mono ?_
          rintro e w6 ⟨rfl, hT6, o6⟩
          have row6 := hrow.kept o6 (fun q => q.2 (Or.inr rfl))
          have itx6 := itx.kept o6 (fun g h q => q.2 (Or.inl h))
          have b6 : Below w.heap.size w w6 := bz.trans (Fr.below o6 bz.size)
          clear hrow itx hT bz
          go_wp2_with fail
          refine (p_len w6 b a 0 0 _ _ hT6.swap).mono ?_
          rintro e w7 ⟨rfl, hT7, o7⟩
          have row7 := row6.kept o7 (fun q => q.2 (Or.inr rfl))
          have itx7 := itx6.kept o7 (fun g h q => q.2 (Or.inl h))
          have b7 : Below w.heap.size w w7 := b6.trans (Fr.below o7 b6.size)
          clear row6 itx6 hT6 hT7 b6 o6 o7
          go_wp2_with fail
          go_loopg [87] n (fun gk vi wr => ∃ j : Nat, vi = .int .i64 (j : Int) ∧ j + gk = n ∧ Row kc 2 30 wr g n cap Fy ∧ Its kc 2 30 wr (.slice sA n scap) Gx n Fx ∧ Below w.heap.size w wr)
          case atStart => exact ⟨0, rfl, by omega, row7, itx7, b7⟩
          case round =>
            clear row7 itx7 b7
            obtain ⟨j, rfl, hjk, row, itx, bz⟩ := hrel
            have HJK := Lib.hid hjk
            by_cases hj : j < n
            · obtain ⟨gx, capx, hGx, hsx, rowx⟩ := itx.some_ (by omega)
              injection hsx with e1 e2 e3
              subst e1 e3
              have hji : (j : Int) < (n : Int) := by omega
              have hcy := row.cap_.1
              obtain ⟨⟨k1, k2⟩, hFy⟩ : ∃ x, Fy j = x := ⟨_, rfl⟩
              have hFx : Fx j = (k1, k2) := by rw [HSM.out j hj hj, hFy]
              have y0 : wr.cell? ⟨g, j * 2, none⟩ = some (.int .i64 k1) := row.cell (c := 0) hj (by rw [hFy]; rfl) rfl
              have y1 : wr.cell? ⟨g, j * 2 + 1, none⟩ = some (.int .i64 k2) := row.cell (c := 1) hj (by rw [hFy]; rfl) rfl
              have z0 : wr.cell? ⟨gx, j * 2, none⟩ = some (.int .i64 k1) := rowx.cell (c := 0) hj (by rw [hFx]; rfl) rfl
              have z1 : wr.cell? ⟨gx, j * 2 + 1, none⟩ = some (.int .i64 k2) := rowx.cell (c := 1) hj (by rw [hFx]; rfl) rfl
              clear hFy hFx hjk
              go_wp2_with fail
              go_quiet (fail)
              have oq : Only wr (wr.drewN nq) (fun _ => False) := (Only.refl wr _).drewN nq
              have row1 := row.kept oq (fun q => q)
              have itx1 := itx.kept oq (fun _ _ q => q)
              have b1 : Below w.heap.size w (wr.drewN nq) := below_drewN bz nq
              clear y0 y1 z0 z1
              generalize wr.drewN nq = w9 at row1 itx1 b1 ⊢
              go_wp2_with fail
              go_roundg (n - (j + 1))
              case measure => have := HJK.out; omega
              case rel => exact ⟨j + 1, by go_num, by omega, row1, itx1, b1⟩
            · obtain rfl : j = n := by omega
              go_wp2_with fail
              go_ret
              exact ⟨rfl, bz⟩
end Go.Proofs.Ytkldoeillkfpbaa.W.HT
