/- Contracts of package quota: SetAccount, End, Account. -/
import Derived.Test.YtancebpkiioaiaaQuoB
import Derived.Deep.RegionHeld3
namespace Go.Proofs.Ytancebpkiioaiaa.W
open Go.RowKit

/-- These values from a place on. -/
def setQ : List Value → Nat → List Value → List Value
  | cur, _, [] => cur
  | cur, o, v :: r => setQ (cur.set o v) (o + 1) r
theorem row_setCells {g : Nat} {t : TypeId} : ∀ (vs : List Value) (o : Nat) {w : World} {cur : List Value}, w.heap[g]? = some (.cells cur.toArray t (0, 0)) → (w.setCells g o vs).heap[g]? = some (.cells (setQ cur o vs).toArray t (0, 0))
  | [], _, _, _, h => h
  | v :: r, o, w, cur, h => by
    rw [World.setCells, setQ]
    exact row_setCells r (o + 1) (set_rowL h o v)
theorem grown_setCells {g : Nat} : ∀ (vs : List Value) (o : Nat) {w w0 : World}, w0.grownBy w (some g) → w0.grownBy (w.setCells g o vs) (some g)
  | [], _, _, _, h => h
  | v :: r, o, w, w0, h => by
    rw [World.setCells]
    exact grown_setCells r (o + 1) (grown_put h o v)
/-- A struct into the middle of a block that is known whole. -/
theorem wpList_store_part {P : Program} {w : World} {ops : Array Oper} {rest : List Oper} {o : Oper} {a : Act} {Q : Exit → Act → World → Prop} (hgd : o.guard = none) (ty : TypeId) (x y : Operand) (ho : o.op = .store ty x y)
    (b off : Nat) (vs : List Value) (hx : a.eval x = .pointer (some ⟨b, off, none⟩)) (hy : a.eval y = .agg vs.toArray) (cur : List Value) (t : TypeId) (hg : w.heap[b]? = some (.cells cur.toArray t (0, 0))) (hfit : off + vs.length ≤ cur.length)
    (hi : (P.info? ty).map (·.size) = some vs.length) (h1 : ∀ v ∈ vs, v.oneCell' = true)
    (h : ∀ w', Hid (w'.heap[b]? = some (.cells (setQ cur off vs).toArray t (0, 0))) → w.grownBy w' (some b) → wpList P ops Q rest (a.put o.dst undef) w') : wpList P ops Q (o :: rest) a w := by
  refine wpList_store_mid hgd ty x y ho b off vs.toArray hx hy ?_ (by simpa using hi) (all_oneCell_toArray h1) ?_
  · intro j hj
    have hj' : j < vs.length := by simpa using hj
    exact ⟨by rw [cellL hg (off + j) _ (List.getElem?_eq_getElem (by omega))]; rfl, frozen_of_row w b _ _ _ hg⟩
  · exact h _ (show _ = _ from row_setCells vs off hg) (grown_setCells vs off (World.grownBy.refl _ _))

theorem lrow_set (A : Int → Option Nat) (F : Int → Option Fn) (A' : Int → Option Nat) (F' : Int → Option Fn) (o : Nat) : ∀ (vs : List Value) (k : Nat) (cur : List Value), cur.length = 288 → k + vs.length ≤ 288 →
    (∀ j, j < 288 → (k ≤ j ∧ j < k + vs.length → vs[j - k]? = some (lc A' F' j)) ∧ (¬ (k ≤ j ∧ j < k + vs.length) → cur[j]? = some (lc A' F' j))) → setQ cur k vs = lrow A' F'
  | [], k, cur, hl, _, h => by
    rw [setQ]
    apply List.ext_getElem?
    intro j
    by_cases hj : j < 288
    · rw [lrow_at A' F' hj]; exact (h j hj).2 (by simp)
    · rw [List.getElem?_eq_none (by omega), List.getElem?_eq_none (by rw [lrow_len]; omega)]
  | v :: r, k, cur, hl, hk, h => by
    rw [setQ]
    refine lrow_set A F A' F' o r (k + 1) (cur.set k v) (by simpa using hl) (by simp at hk; omega) ?_
    intro j hj
    obtain ⟨h1, h2⟩ := h j hj
    simp only [List.length_cons] at h1 h2 hk
    constructor
    · intro q
      have := h1 (by omega)
      rw [show j - k = (j - (k + 1)) + 1 by omega] at this
      simpa using this
    · intro q
      by_cases e : j = k
      · subst e
        rw [List.getElem?_set_self (by omega)]
        have := h1 (by omega)
        simpa using this
      · rw [List.getElem?_set_ne (by omega)]
        exact h2 (by omega)
theorem lc_far (A : Int → Option Nat) (F : Int → Option Fn) (A' : Int → Option Nat) (F' : Int → Option Fn) {j : Nat} (hA : j < 32 → A' ((j / 2 : Nat) : Int) = A ((j / 2 : Nat) : Int)) (hF : 32 ≤ j → F' (((j - 32) / 4 : Nat) : Int) = F (((j - 32) / 4 : Nat) : Int)) : lc A' F' j = lc A F j := by
  unfold lc
  by_cases h : j < 32
  · rw [hA h, if_pos h, if_pos h]
  · rw [hF (by omega), if_neg h, if_neg h]
theorem lrow_account (A : Int → Option Nat) (F : Int → Option Fn) {x : Nat} (n : Nat) (hx : x < 16) : setQ (lrow A F) (x * 2) [.bool true, .int .i64 (n : Int)] = lrow (updZ A (x : Int) (some n)) F := by
  refine lrow_set A F _ F 0 _ _ _ (lrow_len A F) (by simp; omega) ?_
  intro j hj
  constructor
  · intro q
    rcases (show j = x * 2 ∨ j = x * 2 + 1 by simp at q; omega) with rfl | rfl
    · rw [Nat.sub_self, lc_a0 _ _ hx, updZ_same]; rfl
    · rw [Nat.add_sub_cancel_left, lc_a1 _ _ hx, updZ_same]; rfl
  · intro q
    rw [lrow_at A F hj, lc_far A F _ F (fun h => updZ_ne _ _ (by simp at q; omega)) (fun _ => rfl)]
theorem lrow_func (A : Int → Option Nat) (F : Int → Option Fn) {f : Nat} (o r b : Nat) (hf : f < 64) : setQ (lrow A F) (32 + f * 4) [.bool true, .int .i64 (o : Int), .int .i64 (r : Int), .int .i64 (b : Int)] = lrow A (updZ F (f : Int) (some (o, r, b))) := by
  refine lrow_set A F A _ 0 _ _ _ (lrow_len A F) (by simp; omega) ?_
  intro j hj
  constructor
  · intro q
    rcases (show j = 32 + f * 4 ∨ j = 32 + f * 4 + 1 ∨ j = 32 + f * 4 + 2 ∨ j = 32 + f * 4 + 3 by simp at q; omega) with rfl | rfl | rfl | rfl
    · rw [Nat.sub_self, lc_f0, updZ_same]; rfl
    · rw [Nat.add_sub_cancel_left, lc_f1, updZ_same]; rfl
    · rw [Nat.add_sub_cancel_left, lc_f2, updZ_same]; rfl
    · rw [Nat.add_sub_cancel_left, lc_f3, updZ_same]; rfl
  · intro q
    rw [lrow_at A F hj, lc_far A F A _ (fun _ => rfl) (fun h => updZ_ne _ _ (by simp at q; omega))]
theorem lrow_run (A : Int → Option Nat) (F : Int → Option Fn) {f o r b : Nat} (b' : Nat) (hf : f < 64) (h : F (f : Int) = some (o, r, b)) : (lrow A F).set (32 + f * 4 + 3) (.int .i64 (b' : Int)) = lrow A (updZ F (f : Int) (some (o, r, b'))) := by
  show setQ (lrow A F) (32 + f * 4 + 3) [.int .i64 (b' : Int)] = _
  refine lrow_set A F A _ 0 [.int .i64 (b' : Int)] _ _ (lrow_len A F) (by simp; omega) ?_
  intro j hj
  constructor
  · intro q
    obtain rfl : j = 32 + f * 4 + 3 := by simp at q; omega
    rw [Nat.sub_self, lc_f3, updZ_same]; rfl
  · intro q
    rw [lrow_at A F hj]
    by_cases e : 32 ≤ j ∧ (j - 32) / 4 = f
    · rcases (show j = 32 + f * 4 ∨ j = 32 + f * 4 + 1 ∨ j = 32 + f * 4 + 2 by simp at q; omega) with rfl | rfl | rfl
      · rw [lc_f0, lc_f0, updZ_same, h]; rfl
      · rw [lc_f1, lc_f1, updZ_same, h]; rfl
      · rw [lc_f2, lc_f2, updZ_same, h]; rfl
    · rw [lc_far A F A _ (fun _ => rfl) (fun h => updZ_ne _ _ (by omega))]

theorem Lg.account {w' : World} {l : Nat} {A : Int → Option Nat} {F : Int → Option Fn} {x n : Nat} (h : Ab A F) (hx : x < 16) (hn : n ≤ 1000) (hr : w'.heap[l]? = some (.cells (setQ (lrow A F) (x * 2) [.bool true, .int .i64 (n : Int)]).toArray 76 (0, 0))) : Lg w' l (updZ A (x : Int) (some n)) F :=
  ⟨h.account hx hn, by rw [hr, lrow_account A F n hx]⟩
theorem Lg.run {w' : World} {l : Nat} {A : Int → Option Nat} {F : Int → Option Fn} {f o r b b' : Nat} (h : Ab A F) (hF : F (f : Int) = some (o, r, b)) (hb : b' ≤ 1000) (hr : w'.heap[l]? = some (.cells ((lrow A F).set (32 + f * 4 + 3) (.int .i64 (b' : Int))).toArray 76 (0, 0))) : Lg w' l A (updZ F (f : Int) (some (o, r, b'))) := by
  have := h.f0 _ _ _ _ hF
  exact ⟨h.func (by omega) (by omega) (by omega) hb, by rw [hr, lrow_run A F b' (by omega) hF]⟩

theorem sizeAcc : (Try.prog.info? 70).map (·.size) = some 2 := by kernel_rfl
theorem wpList_store_acc {w : World} {ops : Array Oper} {rest : List Oper} {o : Oper} {a : Act} {Q : Exit → Act → World → Prop} (hgd : o.guard = none) (x y : Operand) (ho : o.op = .store 70 x y)
    (l k m : Nat) (hx : a.eval x = .pointer (some ⟨l, k * 2, none⟩)) (hy : a.eval y = .agg #[.bool true, .int .i64 (m : Int)]) (A : Int → Option Nat) (F : Int → Option Fn) (hg : Lg w l A F) (hk : k < 16) (hm : m ≤ 1000)
    (h : ∀ w', Hid (Lg w' l (updZ A (k : Int) (some m)) F) → w.grownBy w' (some l) → wpList Try.prog ops Q rest (a.put o.dst undef) w') : wpList Try.prog ops Q (o :: rest) a w := by
  refine wpList_store_part hgd _ x y ho l (k * 2) [.bool true, .int .i64 (m : Int)] hx hy _ _ hg.row (by rw [lrow_len]; simp; omega) sizeAcc (by simp [Value.oneCell']) ?_
  intro w' HG hgr
  exact h w' (Lib.hid (Lg.account hg.ab hk hm HG.out)) hgr
theorem wpList_store_fn {w : World} {ops : Array Oper} {rest : List Oper} {o : Oper} {a : Act} {Q : Exit → Act → World → Prop} (hgd : o.guard = none) (x y : Operand) (ho : o.op = .store 73 x y)
    (l f k r b : Nat) (hx : a.eval x = .pointer (some ⟨l, 32 + f * 4, none⟩)) (hy : a.eval y = .agg #[.bool true, .int .i64 (k : Int), .int .i64 (r : Int), .int .i64 (b : Int)]) (A : Int → Option Nat) (F : Int → Option Fn) (hg : Lg w l A F) (hf : f < 64) (hk : k < 16) (hr : r ≤ 1000) (hb : b ≤ 1000)
    (h : ∀ w', Hid (Lg w' l A (updZ F (f : Int) (some (k, r, b)))) → w.grownBy w' (some l) → wpList Try.prog ops Q rest (a.put o.dst undef) w') : wpList Try.prog ops Q (o :: rest) a w := by
  refine wpList_store_part hgd _ x y ho l (32 + f * 4) [.bool true, .int .i64 (k : Int), .int .i64 (r : Int), .int .i64 (b : Int)] hx hy _ _ hg.row (by rw [lrow_len]; simp; omega) sizeFn (by simp [Value.oneCell']) ?_
  intro w' HG hgr
  exact h w' (Lib.hid ⟨hg.ab.func hf hk hr hb, by rw [HG.out, lrow_func A F k r b hf]⟩) hgr

set_option maxRecDepth 100000 in
set_option maxHeartbeats 1600000 in
theorem l_setA (l : Nat) (A : Int → Option Nat) (F : Int → Option Fn) (x n : Int) (w : World) (h : Lg w l A F) :
    Calls Try.prog 23 #[.pointer (some ⟨l, 0, none⟩), .int .i64 x, .int .i64 n] w fun e w' => e = .returned (.int .i64 (accC F x n : Int)) ∧ Lg w' l (accA A F x n) F ∧ w.grownBy w' (some l) := by
  have H := Lib.hid h
  have hl := h.lt
  clear h
  cases hx : isA x with
  | false =>
    have e1 : accC F x n = 1 := by unfold accC; rw [hx]; rfl
    have e2 : accA A F x n = A := by unfold accA; rw [e1]; rfl
    rw [e1, e2]
    have HX := Lib.hid hx
    clear hx e1 e2
    go_enter Try.func23, Try.ntmps23
    go_wp2_with fail
    refine (isA_any _ _).mono ?_
    rintro e w' ⟨rfl, rfl⟩
    rw [HX.out]
    go_wp2
    go_ret
    exact ⟨rfl, H.out, World.grownBy.refl _ _⟩
  | true =>
    cases hn : isC n with
    | false =>
      have e1 : accC F x n = 1 := by unfold accC; rw [hx, hn]; rfl
      have e2 : accA A F x n = A := by unfold accA; rw [e1]; rfl
      rw [e1, e2]
      have HX := Lib.hid hx
      have HN := Lib.hid hn
      clear hx hn e1 e2
      go_enter Try.func23, Try.ntmps23
      go_wp2_with fail
      refine (isA_any _ _).mono ?_
      rintro e w' ⟨rfl, rfl⟩
      rw [HX.out]
      go_wp2_with fail
      refine (isC_any _ _).mono ?_
      rintro e w' ⟨rfl, rfl⟩
      rw [HN.out]
      go_wp2
      go_ret
      exact ⟨rfl, H.out, World.grownBy.refl _ _⟩
    | true =>
      have HX := Lib.hid hx
      have HN := Lib.hid hn
      obtain ⟨a, rfl, ha⟩ := isA_nat hx
      obtain ⟨m, rfl, hm⟩ := isC_nat hn
      have haI : (a : Int) < 16 := by omega
      have hs := H.out.ab.sR (a : Int)
      obtain ⟨p, hp⟩ : ∃ p, sR F (a : Int) = p := ⟨_, rfl⟩
      obtain ⟨q, hq⟩ : ∃ q, sB F (a : Int) = q := ⟨_, rfl⟩
      obtain ⟨u, hu⟩ : ∃ u, sO F (a : Int) = u := ⟨_, rfl⟩
      have hfd : ∀ w, (Instr.field 78 (Sums p q u) 0).run Try.prog w = .ok (.int .i64 (p : Int)) w := fun w => by kernel_rfl
      by_cases hpm : m < p
      · have e1 : accC F (a : Int) (m : Int) = 4 := by unfold accC; rw [hx, hn, hp]; simp [hpm]
        have e2 : accA A F (a : Int) (m : Int) = A := by unfold accA; rw [e1]; rfl
        rw [e1, e2]
        have HP := Lib.hid hp
        have HQ := Lib.hid hq
        have HU := Lib.hid hu
        clear hx hn e1 e2 hp hq hu hs
        go_enter Try.func23, Try.ntmps23
        go_wp2_with fail
        refine (isA_any _ _).mono ?_
        rintro e w' ⟨rfl, rfl⟩
        rw [HX.out]
        go_wp2_with fail
        refine (isC_any _ _).mono ?_
        rintro e w' ⟨rfl, rfl⟩
        rw [HN.out]
        go_wp2_with fail
        refine (l_sum l A F _ _ H.out).mono ?_
        rintro e w' ⟨rfl, b1⟩
        rw [HP.out, HQ.out, HU.out]
        go_wp2
        go_ret
        exact ⟨rfl, H.out.keep b1 hl, below_grown b1 _⟩
      · have e1 : accC F (a : Int) (m : Int) = 0 := by unfold accC; rw [hx, hn, hp]; simp [hpm]
        have e2 : accA A F (a : Int) (m : Int) = updZ A (a : Int) (some m) := by unfold accA; rw [e1]; rfl
        rw [e1, e2]
        have HP := Lib.hid hp
        have HQ := Lib.hid hq
        have HU := Lib.hid hu
        clear hx hn e1 e2 hp hq hu hs
        go_enter Try.func23, Try.ntmps23
        go_wp2_with fail
        refine (isA_any _ _).mono ?_
        rintro e w' ⟨rfl, rfl⟩
        rw [HX.out]
        go_wp2_with fail
        refine (isC_any _ _).mono ?_
        rintro e w' ⟨rfl, rfl⟩
        rw [HN.out]
        go_wp2_with fail
        refine (l_sum l A F _ _ H.out).mono ?_
        rintro e w' ⟨rfl, b1⟩
        rw [HP.out, HQ.out, HU.out]
        have H1 := Lib.hid (H.out.keep b1 hl)
        go_wp2_with (with_reducible refine wpList_store_acc rfl (.tmp 27) (.tmp 24) rfl l a m rfl rfl A F H1.out ha hm ?_; intro w2 HG2 hg2)
        go_ret
        exact ⟨rfl, HG2.out, grown_trans (below_grown b1 _) hg2⟩

set_option maxRecDepth 100000 in
set_option maxHeartbeats 1600000 in
theorem l_end (l : Nat) (A : Int → Option Nat) (F : Int → Option Fn) (x : Int) (w : World) (h : Lg w l A F) :
    Calls Try.prog 27 #[.pointer (some ⟨l, 0, none⟩), .int .i64 x] w fun e w' => e = .returned (.bool (decide (0 < busy F x))) ∧ Lg w' l A (endF F x) ∧ w.grownBy w' (some l) := by
  have H := Lib.hid h
  cases hb : busy F x with
  | zero =>
    have e1 : endF F x = F := by unfold endF; rw [hb]; rfl
    rw [e1]
    have HB := Lib.hid hb
    clear hb e1 h
    go_enter Try.func27, Try.ntmps27
    go_wp2_with fail
    refine (l_busy l A F x _ H.out).mono ?_
    rintro e w' ⟨rfl, rfl⟩
    rw [HB.out]
    go_wp2
    go_ret
    exact ⟨rfl, H.out, World.grownBy.refl _ _⟩
  | succ n =>
    cases hx : F x with
    | none => unfold busy at hb; rw [hx] at hb; cases hb
    | some v =>
      obtain ⟨o, r, b⟩ := v
      have hbd := h.ab.f0 _ _ _ _ hx
      obtain ⟨f, rfl⟩ : ∃ f : Nat, x = (f : Int) := ⟨x.toNat, by omega⟩
      obtain rfl : b = n + 1 := by unfold busy at hb; rw [hx] at hb; exact hb
      have e1 : endF F (f : Int) = updZ F (f : Int) (some (o, r, n)) := by unfold endF; rw [hb, hx]; rfl
      rw [e1]
      have c := h.f3 (f := f) (by omega)
      rw [hx] at c
      have c' : w.cell? ⟨l, 32 + f * 4 + 3, none⟩ = some (.int .i64 ((n : Int) + 1)) := c
      have hfi : (f : Int) < 64 := by omega
      have hnI : (n : Int) ≤ 1000 := by omega
      have hn1 : (n : Int) + 1 - 1 = n := by omega
      have hn0 : ((n : Int) + 1 == 0) = false := by simp; omega
      have hnw : IntKind.i64.wrap (n : Int) = (n : Int) := by rw [IntKind.wrap_i64]; omega
      have hlen : 32 + f * 4 + 3 < (lrow A F).length := by rw [lrow_len]; omega
      have HB := Lib.hid hb
      have HX := Lib.hid hx
      have HLEN := Lib.hid hlen
      have hrow := Lib.hid h.row
      have hnle := Lib.hid (show n ≤ 1000 by omega)
      clear hb hx h c e1 hbd hlen
      go_enter Try.func27, Try.ntmps27
      go_wp2_with fail
      refine (l_busy l A F (f : Int) _ H.out).mono ?_
      rintro e w' ⟨rfl, rfl⟩
      rw [HB.out]
      go_wp2_with fail
      go_still_tail 12, (by kernel_rfl)
      change wpList _ _ _ _ _ w.drew
      have hd := grown_drew (World.grownBy.refl w (some l))
      have hg1 : Hid (w.drew.heap[l]? = _) := hrow
      generalize w.drew = w1 at hd hg1 ⊢
      refine wpList_store_in rfl 3 (.tmp 20) (.tmp 16) rfl (by kernel_rfl) l (32 + f * 4 + 3) rfl .i64 (n : Int) rfl _ _ hg1.out HLEN.out ?_
      intro w2 HG2 hg2
      go_wp2
      go_ret
      exact ⟨by simp, Lg.run H.out.ab HX.out hnle.out HG2.out, grown_trans hd hg2⟩

end Go.Proofs.Ytancebpkiioaiaa.W
