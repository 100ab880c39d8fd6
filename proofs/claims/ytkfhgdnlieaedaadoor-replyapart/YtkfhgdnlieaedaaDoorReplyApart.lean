/-
  Proved: for every input the law ReplyApart returns true, and its arguments read afterwards as before. No condition.
-/
import Derived.Test.YtkfhgdnlieaedaaDoorRows
import Derived.Test.YtkfhgdnlieaedaaDoorCards
import Derived.Test.YtkfhgdnlieaedaaDoorTie
import Derived.SevenTiedAt
import Derived.LaidMore
import Derived.Stop.Joined
import Derived.WalkKit
import Derived.ProofKit
import Derived.OpenShut
import Derived.ShutString
import Derived.ChangeOld
import Derived.Below
import Derived.Carry
import Derived.Test.YtkfhgdnlieaedaaDoorReL
import Derived.Test.YtkfhgdnlieaedaaDoorReJ
import Derived.Test.YtkfhgdnlieaedaaDoorAgg
namespace Go.Proofs.YtkfhgdnlieaedaaDoor.replyApart
open Go.ChangeShapes Go.WideShapes Go.ChangeAt Go.RowKit W
open Go.ChangeMaps (open_string shut_string)
set_option linter.unusedVariables false

theorem own : ownKnob Tryd.prog.godebug = none := by kernel_rfl
theorem laidOut : laidOutB Tryd.prog = true := by kernel_rfl

set_option maxRecDepth 100000 in
theorem lifted (os : Os) (started : os.Started) (H : Type) (enc : TypeId × Value → H) :
    ReturnsInHanded {} Tryd.checked os 6 .any (fun w args => (Rows.replyApartSpec.pre enc Tryd.prog Tryd.f6 [] false w args ∧ laidMetH Tryd.prog Rows.replyApartRow.laid w) ∧ sizedMet enc Tryd.prog Tryd.f6 (OpenSpec.ofChange Rows.replyApartSpec) false w args) (Rows.replyApartSpec.post enc Tryd.prog Tryd.f6 false true false false) := by
  refine returnsInHanded_of_change_and (C := Tryd.checked) (X := fun w _ => laidMetH Tryd.prog Rows.replyApartRow.laid w) (fun _ _ _ hh h => h.of_heap hh) own started (by kernel_rfl) Tryd.func6
    (ChangeSpec.witness_shaped (enc := enc) (C := Tryd.checked) (os := os) (X := fun w _ => laidMetH Tryd.prog Rows.replyApartRow.laid w) false (World.doorLaid Tryd.prog 400 os) #[.agg #[.int .i64 0, .int .i64 0, .int .i64 0, .int .i64 0], .agg #[.int .i64 0, .int .i64 0, .int .i64 0, .int .i64 0]] 8 rfl (World.shaped_of_RefB (by kernel_rfl) (by kernel_rfl)) (by kernel_rfl) (by kernel_rfl) (by kernel_rfl) (W.door_met os _)) ?_
  intro W base args ds gs before hval0 hW _ _ hL _
  have hval : ∀ (j : Nat) t v, Tryd.f6.params[j]? = some t → args[j]? = some v → Value.okWide Tryd.prog W .any base t v := hval0
  have hW' := hW
  obtain ⟨p, q, hA0, hV, rfl, hfz, hnd⟩ := hW
  have hA : DataW.TrodAll enc Tryd.prog W 0 (fun _ => true) true Tryd.f6.params.toList args.toList ds p := hA0
  rw [Tryd.params6] at hA hval
  obtain ⟨v0, vs0, d0, ds0, p0, q0, hargs, rfl, rfl, h0, r0⟩ := trodAll_cons hA
  obtain ⟨v1, vs1, d1, ds1, p1, q1, rfl, rfl, rfl, h1, r1⟩ := trodAll_cons r0
  obtain ⟨rfl, rfl, rfl⟩ := trodAll_nil r1
  obtain rfl : args = #[v0, v1] := by cases args; simp_all
  obtain ⟨rfl, rfl⟩ := trodVars_none hV
  have k0 := h0
  have lt0 : ∀ x ∈ p0, x.block < W.heap.size := by obtain ⟨m, hm⟩ := k0; exact DataW.trod_lt m _ _ _ hm
  obtain ⟨Z0, rfl, wf0⟩ := open_aggN (N := 4) Tryd.underlying26 (by kernel_rfl) rfl (fun i f hf => by
      match i, hf with
      | 0, hf => cases hf; exact ⟨by kernel_rfl, by kernel_rfl, by kernel_rfl⟩
      | 1, hf => cases hf; exact ⟨by kernel_rfl, by kernel_rfl, by kernel_rfl⟩
      | 2, hf => cases hf; exact ⟨by kernel_rfl, by kernel_rfl, by kernel_rfl⟩
      | 3, hf => cases hf; exact ⟨by kernel_rfl, by kernel_rfl, by kernel_rfl⟩
      | q + 4, hf => simp at hf) (hval 0 26 v0 rfl rfl) h0
  have k1 := h1
  have lt1 : ∀ x ∈ p1, x.block < W.heap.size := by obtain ⟨m, hm⟩ := k1; exact DataW.trod_lt m _ _ _ hm
  obtain ⟨Z1, rfl, wf1⟩ := open_aggN (N := 4) Tryd.underlying26 (by kernel_rfl) rfl (fun i f hf => by
      match i, hf with
      | 0, hf => cases hf; exact ⟨by kernel_rfl, by kernel_rfl, by kernel_rfl⟩
      | 1, hf => cases hf; exact ⟨by kernel_rfl, by kernel_rfl, by kernel_rfl⟩
      | 2, hf => cases hf; exact ⟨by kernel_rfl, by kernel_rfl, by kernel_rfl⟩
      | 3, hf => cases hf; exact ⟨by kernel_rfl, by kernel_rfl, by kernel_rfl⟩
      | q + 4, hf => simp at hf) (hval 1 26 v1 rfl rfl) h1
  clear hA0 hval0
  refine (show Calls Tryd.prog 6 #[.agg (zs Z0 4).toArray, .agg (zs Z1 4).toArray] W (fun x w' => x = .returned (.bool true) ∧ Below W.heap.size W w') from apart_walk (Z0 0) (Z0 1) (Z0 2) (Z0 3) (Z1 0) (Z1 1) (Z1 2) (Z1 3) W (gl_of_laid hL)).mono fun e W' ⟨he, bel⟩ => ?_
  subst he
  exact ⟨_, rfl, _, _, _, [], _, [], hW', trodAll_mk1 (shut_bool Tryd.underlying4 _), (trodAll_cons_mk (Below.trod laidOut (by kernel_rfl) (of_decide_eq_true (by kernel_rfl)) k0 bel lt0) (trodAll_cons_mk (Below.trod laidOut (by kernel_rfl) (of_decide_eq_true (by kernel_rfl)) k1 bel lt1) trodAll_mk0)), rfl, bel.frame _, fun h => by cases h⟩

theorem said : Rows.ReplyApartSaid :=
  OpenClaim.holds_of_wide 6 Tryd.f6 rfl rfl rfl rfl rfl rfl rfl ⟨rfl, rfl, rfl, rfl, rfl⟩ rfl rfl rfl rfl rfl (by kernel_rfl) Tryd.func6 (by kernel_rfl)
    (of_decide_eq_true (by kernel_rfl)) (by unfold Func.isWrapper; first | (rw [if_pos (by decide +kernel)]; kernel_rfl) | (rw [if_neg (by decide +kernel)]; exact ⟨rfl, rfl⟩))
    (fun os started H enc _ => lifted os started H enc)
theorem proved : Rows.ReplyApartCardSaid :=
  Claim7.holds_tied_plain_at .later [] [.data, .data, .data, .sentinel, .sentinel] true (true, "711295311ffbbf00e66b60869f22bfcab43887ab0b412d0349bde0c1b242f77c") true
    said (fun _ h => by cases h) (by kernel_rfl) (fun _ h => by cases h) replyApart_row_tie rfl ⟨rfl, rfl⟩ (by kernel_rfl) rfl
    (fun f fn hf hfn => by
      obtain rfl : f = 6 := Option.some.inj ((show Tryd.prog.funcNamed "greenhouse/greenhouselaw17.ReplyApart" = some 6 by kernel_rfl).symm.trans hf) |>.symm
      obtain rfl : fn = Tryd.f6 := (Option.some.inj (Tryd.func6.symm.trans hfn)).symm
      exact ⟨by kernel_rfl, fun j t ht => by
        rw [Tryd.params6] at ht
        rcases j with _ | j
        · obtain rfl : t = 26 := by simpa using ht.symm
          exact (show Tryd.prog.wantsStandIn 26 = false by kernel_rfl)
        rcases j with _ | j
        · obtain rfl : t = 26 := by simpa using ht.symm
          exact (show Tryd.prog.wantsStandIn 26 = false by kernel_rfl)
        simp at ht⟩)
    (by kernel_rfl)
#print axioms proved
end Go.Proofs.YtkfhgdnlieaedaaDoor.replyApart
