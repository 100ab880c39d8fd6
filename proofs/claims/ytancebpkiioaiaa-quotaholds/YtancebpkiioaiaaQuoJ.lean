/- One account with a limit, and its functions: what holds whatever begins and ends. -/
import Derived.Test.YtancebpkiioaiaaQuoH
import Derived.Deep.LoopGhost
namespace Go.Proofs.Ytancebpkiioaiaa.W
open Go.RowKit

def A0 (lim : Nat) : Int → Option Nat := updZ noA 0 (some lim)
theorem A0_0 (lim : Nat) : A0 lim 0 = some lim := updZ_same _ _ _
theorem A0_0n (lim : Nat) : A0 lim ((0 : Nat) : Int) = some lim := updZ_same _ _ _
def rsv (F : Int → Option Fn) (x : Int) : Nat := ((F x).getD (0, 0, 0)).2.1
theorem rsv_some {F : Int → Option Fn} {f : Int} {o r b : Nat} (hF : F f = some (o, r, b)) : rsv F f = r := by unfold rsv; rw [hF]; rfl
theorem rsv_none {F : Int → Option Fn} {f : Int} (hF : F f = none) : rsv F f = 0 := by unfold rsv; rw [hF]; rfl

/-- One function more, or with another count. -/
theorem upd_sums {F : Int → Option Fn} {f o r b : Nat} (hf : f < 64) (h : F (f : Int) = some (o, r, b)) (b' : Nat) :
    sB (updZ F (f : Int) (some (o, r, b'))) (o : Int) + b = sB F (o : Int) + b' ∧ sO (updZ F (f : Int) (some (o, r, b'))) (o : Int) + (if r = 0 then b else 0) = sO F (o : Int) + (if r = 0 then b' else 0) ∧ sR (updZ F (f : Int) (some (o, r, b'))) (o : Int) = sR F (o : Int) := by
  have h1 := sumN_upd (g := gB F (o : Int)) (g' := gB (updZ F (f : Int) (some (o, r, b'))) (o : Int)) (fun j hj => gB_ne hj) hf
  have h2 := sumN_upd (g := gO F (o : Int)) (g' := gO (updZ F (f : Int) (some (o, r, b'))) (o : Int)) (fun j hj => gO_ne hj) hf
  have h3 := sumN_upd (g := gR F (o : Int)) (g' := gR (updZ F (f : Int) (some (o, r, b'))) (o : Int)) (fun j hj => gR_ne hj) hf
  rw [gB_some h, gB_same, if_pos rfl, if_pos rfl] at h1
  rw [gO_some h, gO_same] at h2
  rw [gR_some h, gR_same, if_pos rfl] at h3
  simp only [true_and] at h2
  unfold sB sO sR
  exact ⟨h1, h2, by omega⟩
theorem new_sums {F : Int → Option Fn} {f o r : Nat} (hf : f < 64) (h : F (f : Int) = none) : sR (updZ F (f : Int) (some (o, r, 0))) (o : Int) = sR F (o : Int) + r := by
  have h3 := sumN_upd (g := gR F (o : Int)) (g' := gR (updZ F (f : Int) (some (o, r, 0))) (o : Int)) (fun j hj => gR_ne hj) hf
  rw [gR_none h, gR_same, if_pos rfl] at h3
  unfold sR; omega

/-- While functions are set. -/
structure Js (lim n : Nat) (F : Int → Option Fn) : Prop where
  zero : ∀ x o r b, F x = some (o, r, b) → o = 0 ∧ b = 0
  far : ∀ j : Nat, n ≤ j → F (j : Int) = none
  sum : sR F 0 ≤ lim
/-- While calls begin and end. -/
structure Kp (lim n : Nat) (F : Int → Option Fn) : Prop where
  zero : ∀ x o r b, F x = some (o, r, b) → o = 0 ∧ (0 < r → b ≤ r)
  far : ∀ j : Nat, n ≤ j → F (j : Int) = none
  all : sB F 0 ≤ lim
  opn : sO F 0 + sR F 0 ≤ lim
theorem js_no (lim : Nat) : Js lim 0 noF := ⟨fun _ _ _ _ h => (nomatch h), fun _ _ => rfl, by rw [sR_no]; omega⟩
theorem Js.kp {lim n : Nat} {F : Int → Option Fn} (h : Js lim n F) : Kp lim n F := by
  have hB : sB F 0 = 0 := sumN_zero (fun j _ => by
    cases q : F (j : Int) with
    | none => exact gB_none q
    | some v => obtain ⟨o, r, b⟩ := v; rw [gB_some q, (h.zero _ _ _ _ q).2]; simp)
  have hO : sO F 0 = 0 := sumN_zero (fun j _ => by
    cases q : F (j : Int) with
    | none => exact gO_none q
    | some v => obtain ⟨o, r, b⟩ := v; rw [gO_some q, (h.zero _ _ _ _ q).2]; simp)
  have hs := h.sum
  exact ⟨fun x o r b q => ⟨(h.zero x o r b q).1, fun _ => by have := (h.zero x o r b q).2; omega⟩, h.far, by omega, by omega⟩
theorem Js.code {lim n : Nat} {F : Int → Option Fn} (h : Js lim n F) {i r : Nat} (hi : i < 64) (hn : n ≤ i) (hr : r ≤ 1000) : funC (A0 lim) F (i : Int) 0 (r : Int) = if lim < sR F 0 + r then 4 else 0 := by
  rw [funC_go (lim := lim) (by rw [isF_iff.2 (by omega), isC_iff.2 (by omega)]; rfl) (A0_0 lim) (Or.inl (h.far i hn)), h.far i hn]
  simp only [Option.getD_none]
  by_cases q : lim < sR F 0 + r
  · rw [if_pos q, if_pos (by omega)]
  · rw [if_neg q, if_neg (by omega)]
theorem Js.skip {lim n : Nat} {F : Int → Option Fn} (h : Js lim n F) : Js lim (n + 1) F := ⟨h.zero, fun j hj => h.far j (by omega), h.sum⟩
theorem Js.put {lim n : Nat} {F : Int → Option Fn} (h : Js lim n F) {r : Nat} (hn : n < 64) (hs : ¬ lim < sR F 0 + r) : Js lim (n + 1) (updZ F (n : Int) (some (0, r, 0))) ∧ sR (updZ F (n : Int) (some (0, r, 0))) 0 = sR F 0 + r := by
  have e : sR (updZ F (n : Int) (some (0, r, 0))) 0 = sR F 0 + r := new_sums (o := 0) hn (h.far n (Nat.le_refl _))
  refine ⟨⟨fun x o r' b q => ?_, fun j hj => ?_, by omega⟩, e⟩
  · by_cases ex : x = (n : Int)
    · subst ex; rw [updZ_same] at q; cases q; exact ⟨rfl, rfl⟩
    · rw [updZ_ne _ _ ex] at q; exact h.zero x o r' b q
  · rw [updZ_ne _ _ (by omega)]; exact h.far j (by omega)
theorem Js.fun {lim n : Nat} {F : Int → Option Fn} (h : Js lim n F) {r : Nat} (hc : funC (A0 lim) F (n : Int) 0 (r : Int) = 0) : funF (A0 lim) F (n : Int) 0 (r : Int) = updZ F (n : Int) (some (0, r, 0)) := by
  have := funF_yes (x := 0) hc
  rw [busy_none (h.far n (Nat.le_refl _))] at this
  exact this

/-- Nothing that is reserved has turned. -/
def Same (F F' : Int → Option Fn) : Prop := ∀ x, rsv F' x = rsv F x ∧ (F' x).isSome = (F x).isSome
theorem Same.refl (F : Int → Option Fn) : Same F F := fun _ => ⟨rfl, rfl⟩
theorem same_upd {F : Int → Option Fn} {f : Int} {o r b : Nat} (h : F f = some (o, r, b)) (b' : Nat) : Same F (updZ F f (some (o, r, b'))) := by
  intro x
  by_cases e : x = f
  · subst e; unfold rsv; rw [updZ_same, h]; exact ⟨rfl, rfl⟩
  · unfold rsv; rw [updZ_ne _ _ e]; exact ⟨rfl, rfl⟩
theorem Kp.beg {lim n : Nat} {F : Int → Option Fn} (h : Kp lim n F) (hab : Ab (A0 lim) F) (x : Int) : Kp lim n (begF (A0 lim) F x) ∧ sR (begF (A0 lim) F x) 0 = sR F 0 ∧ Same F (begF (A0 lim) F x) := by
  cases hm : mayB (A0 lim) F x with
  | false => rw [begF_no hm]; exact ⟨h, rfl, Same.refl F⟩
  | true =>
    obtain ⟨f, o, r, b, rfl, hf, hF, _, h1, h2⟩ := ask_free hab hm
    obtain rfl : o = 0 := (h.zero _ _ _ _ hF).1
    rw [begF_yes hm hF]
    obtain ⟨u1, u2, u3⟩ := upd_sums hf hF (b + 1)
    rw [A0_0n] at h2
    simp only [Option.getD_some, not_or] at h2
    have hall := h.all
    have hopn := h.opn
    simp only [show ((0 : Nat) : Int) = 0 from rfl] at u1 u2 u3 h2
    refine ⟨⟨fun y o' r' b' q => ?_, fun j hj => ?_, by omega, ?_⟩, u3, same_upd hF _⟩
    · by_cases ex : y = (f : Int)
      · subst ex; rw [updZ_same] at q; cases q; exact ⟨rfl, fun _ => by omega⟩
      · rw [updZ_ne _ _ ex] at q; exact h.zero y o' r' b' q
    · by_cases ex : j = f
      · subst ex; rw [h.far j hj] at hF; cases hF
      · rw [updZ_ne _ _ (by omega)]; exact h.far j hj
    · by_cases hr : r = 0
      · rw [if_pos hr, if_pos hr] at u2; have := fun q => h2.2 ⟨hr, q⟩; omega
      · rw [if_neg hr, if_neg hr] at u2; omega
theorem Kp.fin {lim n : Nat} {F : Int → Option Fn} (h : Kp lim n F) (hab : Ab (A0 lim) F) (x : Int) : Kp lim n (endF F x) ∧ sR (endF F x) 0 = sR F 0 ∧ Same F (endF F x) := by
  cases hb : busy F x with
  | zero => rw [endF_no hb]; exact ⟨h, rfl, Same.refl F⟩
  | succ m =>
    cases hF : F x with
    | none => rw [busy_none hF] at hb; cases hb
    | some v =>
      obtain ⟨o, r, b⟩ := v
      rw [busy_some hF] at hb
      subst hb
      have hbd := hab.f0 _ _ _ _ hF
      obtain ⟨f, rfl⟩ : ∃ f : Nat, x = (f : Int) := ⟨x.toNat, by omega⟩
      obtain ⟨rfl, hz⟩ := h.zero _ _ _ _ hF
      rw [endF_yes hF]
      obtain ⟨u1, u2, u3⟩ := upd_sums (f := f) (by omega) hF m
      have hall := h.all
      have hopn := h.opn
      simp only [show ((0 : Nat) : Int) = 0 from rfl] at u1 u2 u3
      refine ⟨⟨fun y o' r' b' q => ?_, fun j hj => ?_, by omega, ?_⟩, u3, same_upd hF _⟩
      · by_cases ex : y = (f : Int)
        · subst ex; rw [updZ_same] at q; cases q; exact ⟨rfl, fun q => by have := hz q; omega⟩
        · rw [updZ_ne _ _ ex] at q; exact h.zero y o' r' b' q
      · by_cases ex : j = f
        · subst ex; rw [h.far j hj] at hF; cases hF
        · rw [updZ_ne _ _ (by omega)]; exact h.far j hj
      · by_cases hr : r = 0
        · rw [if_pos hr, if_pos hr] at u2; omega
        · rw [if_neg hr, if_neg hr] at u2; omega
/-- What is reserved is there. -/
theorem Kp.hold {lim n : Nat} {F : Int → Option Fn} (h : Kp lim n F) {f r b : Nat} (hf : f < 64) (hF : F (f : Int) = some (0, r, b)) (hb : b < r) : mayB (A0 lim) F (f : Int) = true := by
  have hlt : sB F 0 < sO F 0 + sR F 0 := by
    unfold sB sO sR
    rw [← sumN_add]
    refine sumN_lt (x := f) ?_ hf ?_
    · show gB F 0 f < gO F 0 f + gR F 0 f
      rw [gB_some hF, gO_some hF, gR_some hF]; simp only [show ((0 : Nat) : Int) = 0 from rfl, if_true, true_and]; omega
    · intro j _
      show gB F 0 j ≤ gO F 0 j + gR F 0 j
      cases q : F (j : Int) with
      | none => rw [gB_none q]; omega
      | some v =>
        obtain ⟨o, r', b'⟩ := v
        obtain ⟨rfl, hz⟩ := h.zero _ _ _ _ q
        rw [gB_some q, gO_some q, gR_some q]
        simp only [show ((0 : Nat) : Int) = 0 from rfl, if_true, true_and]
        by_cases hr : r' = 0
        · rw [if_pos hr]; omega
        · have := hz (by omega); omega
  have hopn := h.opn
  unfold mayB
  rw [ask_some hF, if_neg (by omega), A0_0n, if_neg]
  · rfl
  · simp only [Option.getD_some, show ((0 : Nat) : Int) = 0 from rfl]; omega
theorem full_may {A : Int → Option Nat} {F : Int → Option Fn} {f : Int} {o r : Nat} (hF : F f = some (o, r, r)) (hr : 0 < r) : mayB A F f = false := by
  unfold mayB; rw [ask_some hF, if_pos ⟨hr, Nat.le_refl _⟩]; rfl
theorem acc0 {lim : Nat} (h : lim ≤ 1000) : accC noF 0 (lim : Int) = 0 ∧ accA noA noF 0 (lim : Int) = A0 lim := by
  have hc : accC noF 0 (lim : Int) = 0 := by
    unfold accC
    rw [sR_no, isC_iff.2 (by omega), show isA 0 = true by decide]
    simp
  exact ⟨hc, accA_yes hc⟩

/-- What is reserved, and which are there, as cells. -/
def hrow (F : Int → Option Fn) (n : Nat) : List Value := (List.range n).map (fun j : Nat => Value.int .i64 (rsv F (j : Int) : Int))
def trow (F : Int → Option Fn) (n : Nat) : List Value := (List.range n).map (fun j : Nat => Value.bool (F (j : Int)).isSome)
theorem hrow_len (F : Int → Option Fn) (n : Nat) : (hrow F n).length = n := by simp [hrow]
theorem trow_len (F : Int → Option Fn) (n : Nat) : (trow F n).length = n := by simp [trow]
theorem hrow_at (F : Int → Option Fn) {n j : Nat} (h : j < n) : (hrow F n)[j]? = some (.int .i64 (rsv F (j : Int) : Int)) := by unfold hrow; rw [List.getElem?_map, List.getElem?_range h]; rfl
theorem trow_at (F : Int → Option Fn) {n j : Nat} (h : j < n) : (trow F n)[j]? = some (.bool (F (j : Int)).isSome) := by unfold trow; rw [List.getElem?_map, List.getElem?_range h]; rfl
theorem hrow_no (n : Nat) : List.replicate n (Value.int .i64 0) = hrow noF n := by
  unfold hrow; rw [show (fun j : Nat => Value.int .i64 (rsv noF (j : Int) : Int)) = fun _ => Value.int .i64 0 from rfl, List.map_const']; simp
theorem trow_no (n : Nat) : List.replicate n (Value.bool false) = trow noF n := by
  unfold trow; rw [show (fun j : Nat => Value.bool (noF (j : Int)).isSome) = fun _ => Value.bool false from rfl, List.map_const']; simp
theorem Same.hrow {F F' : Int → Option Fn} (h : Same F F') (n : Nat) : hrow F' n = hrow F n := by
  unfold W.hrow; apply List.map_congr_left; intro j _; rw [(h j).1]
theorem Same.trow {F F' : Int → Option Fn} (h : Same F F') (n : Nat) : trow F' n = trow F n := by
  unfold W.trow; apply List.map_congr_left; intro j _; rw [(h j).2]
theorem hrow_put (F : Int → Option Fn) {n i : Nat} (r : Nat) (hi : i < n) : (hrow F n).set i (.int .i64 (r : Int)) = hrow (updZ F (i : Int) (some (0, r, 0))) n := by
  apply List.ext_getElem?
  intro j
  by_cases hj : j < n
  · rw [hrow_at _ hj]
    by_cases e : i = j
    · subst e; rw [List.getElem?_set_self (by rw [hrow_len]; exact hi), rsv_some (updZ_same _ _ _)]
    · rw [List.getElem?_set_ne e, hrow_at F hj]; unfold rsv; rw [updZ_ne _ _ (by omega)]
  · rw [List.getElem?_eq_none (by rw [List.length_set, hrow_len]; omega), List.getElem?_eq_none (by rw [hrow_len]; omega)]
theorem trow_put (F : Int → Option Fn) {n i : Nat} (r : Nat) (hi : i < n) : (trow F n).set i (.bool true) = trow (updZ F (i : Int) (some (0, r, 0))) n := by
  apply List.ext_getElem?
  intro j
  by_cases hj : j < n
  · rw [trow_at _ hj]
    by_cases e : i = j
    · subst e; rw [List.getElem?_set_self (by rw [trow_len]; exact hi), updZ_same]; rfl
    · rw [List.getElem?_set_ne e, trow_at F hj, updZ_ne _ _ (by omega)]
  · rw [List.getElem?_eq_none (by rw [List.length_set, trow_len]; omega), List.getElem?_eq_none (by rw [trow_len]; omega)]

/-- A bool into a cell of a block that is known whole. -/
theorem wpList_store_boolin {P : Program} {w : World} {ops : Array Oper} {rest : List Oper} {o : Oper} {a : Act} {Q : Exit → Act → World → Prop} (hgd : o.guard = none) (ty : TypeId) (p y : Operand) (ho : o.op = .store ty p y) (hsz : (P.info? ty).map (·.size) = some 1)
    (b j : Nat) (hp : a.eval p = .pointer (some ⟨b, j, none⟩)) (x : Bool) (hy : a.eval y = .bool x) (cur : List Value) (t : TypeId) (hg : w.heap[b]? = some (.cells cur.toArray t (0, 0))) (hj : j < cur.length)
    (h : ∀ w', Hid (w'.heap[b]? = some (.cells (cur.set j (.bool x)).toArray t (0, 0))) → w.grownBy w' (some b) → wpList P ops Q rest (a.put o.dst undef) w') : wpList P ops Q (o :: rest) a w := by
  refine wpList_plain hgd fun K hK => ?_
  cases hq : P.info? ty with
  | none => simp [hq] at hsz
  | some i =>
    have hs : i.size = 1 := by simpa [hq] using hsz
    have h1 := run_storeCells_cells (P := P) b j [.bool x] 0 w (fun i hi => by
      obtain rfl : i = 0 := by simp at hi; omega
      rw [show j + 0 + 0 = j from rfl, cellL hg j _ (List.getElem?_eq_getElem hj)]; rfl) (fun i hi => by
      obtain rfl : i = 0 := by simp at hi; omega
      exact frozen_of_row w b _ _ _ hg) (by simp [Value.oneCell'])
    simp only [World.setCells, Nat.add_zero] at h1
    have hrun : (Instr.storeAt ty (.pointer (some ⟨b, j, none⟩)) (.bool x)).run P w = .ok () (w.setCell ⟨b, j, none⟩ (.bool x)) := by
      simp [Instr.storeAt, Instr.sureAddr, storeVar, sizeOf, typeInfo, hq, hs, Value.cells, h1]
    unfold Oper.wp execOp
    simp only [ho, hp, hy, hrun, Sem.run_bind, Sem.run_pure, Result.andThen]
    refine hK _ _ (h _ (show _ = _ from set_rowL hg j _) (grown_set w 0 b j _))

end Go.Proofs.Ytancebpkiioaiaa.W
