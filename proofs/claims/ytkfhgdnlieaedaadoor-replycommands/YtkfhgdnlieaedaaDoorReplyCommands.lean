/-
  Proved: for every input the law ReplyCommands returns true, and its arguments read afterwards as before. No condition.
-/
import Derived.Test.YtkfhgdnlieaedaaDoorRows
import Derived.Test.YtkfhgdnlieaedaaDoorCards
import Derived.Test.YtkfhgdnlieaedaaDoorTie
import Derived.SevenTiedAt
import Derived.LaidMore
import Derived.Stop.Joined
import Derived.WalkKit
import Derived.ProofKit
import Derived.OpenShut
import Derived.ShutString
import Derived.ChangeOld
import Derived.Below
import Derived.Carry
import Derived.Test.YtkfhgdnlieaedaaDoorReL
import Derived.Test.YtkfhgdnlieaedaaDoorReO
import Derived.Test.YtkfhgdnlieaedaaDoorAggB
namespace Go.Proofs.YtkfhgdnlieaedaaDoor.replyCommands
open Go.ChangeShapes Go.WideShapes Go.ChangeAt Go.RowKit W
open Go.ChangeMaps (open_string shut_string)
set_option linter.unusedVariables false

theorem own : ownKnob Tryd.prog.godebug = none := by kernel_rfl
theorem laidOut : laidOutB Tryd.prog = true := by kernel_rfl

set_option maxRecDepth 100000 in
theorem lifted (os : Os) (started : os.Started) (H : Type) (enc : TypeId × Value → H) :
    ReturnsInHanded {} Tryd.checked os 5 .any (fun w args => (Rows.replyCommandsSpec.pre enc Tryd.prog Tryd.f5 [] false w args ∧ laidMetH Tryd.prog Rows.replyCommandsRow.laid w) ∧ sizedMet enc Tryd.prog Tryd.f5 (OpenSpec.ofChange Rows.replyCommandsSpec) false w args) (Rows.replyCommandsSpec.post enc Tryd.prog Tryd.f5 false true false false) := by
  refine returnsInHanded_of_change_and (C := Tryd.checked) (X := fun w _ => laidMetH Tryd.prog Rows.replyCommandsRow.laid w) (fun _ _ _ hh h => h.of_heap hh) own started (by kernel_rfl) Tryd.func5
    (ChangeSpec.witness_shaped (enc := enc) (C := Tryd.checked) (os := os) (X := fun w _ => laidMetH Tryd.prog Rows.replyCommandsRow.laid w) false (World.doorLaid Tryd.prog 400 os) #[.agg #[.bool false, .int .i64 0, .int .i64 0, .int .i64 0], .agg #[.bool false, .int .i64 0, .int .i64 0, .int .i64 0]] 8 rfl (World.shaped_of_RefB (by kernel_rfl) (by kernel_rfl)) (by kernel_rfl) (by kernel_rfl) (by kernel_rfl) (W.door_met os _)) ?_
  intro W base args ds gs before hval0 hW _ _ hL _
  have hval : ∀ (j : Nat) t v, Tryd.f5.params[j]? = some t → args[j]? = some v → Value.okWide Tryd.prog W .any base t v := hval0
  have hW' := hW
  obtain ⟨p, q, hA0, hV, rfl, hfz, hnd⟩ := hW
  have hA : DataW.TrodAll enc Tryd.prog W 0 (fun _ => true) true Tryd.f5.params.toList args.toList ds p := hA0
  rw [Tryd.params5] at hA hval
  obtain ⟨v0, vs0, d0, ds0, p0, q0, hargs, rfl, rfl, h0, r0⟩ := trodAll_cons hA
  obtain ⟨v1, vs1, d1, ds1, p1, q1, rfl, rfl, rfl, h1, r1⟩ := trodAll_cons r0
  obtain ⟨rfl, rfl, rfl⟩ := trodAll_nil r1
  obtain rfl : args = #[v0, v1] := by cases args; simp_all
  obtain ⟨rfl, rfl⟩ := trodVars_none hV
  have k0 := h0
  have lt0 : ∀ x ∈ p0, x.block < W.heap.size := by obtain ⟨m, hm⟩ := k0; exact DataW.trod_lt m _ _ _ hm
  obtain ⟨q0b, x0, y0, z0, rfl, wx0, wy0, wz0⟩ := open_b3 Tryd.underlying36 (by kernel_rfl) rfl (fun f hf => by cases hf; exact ⟨by kernel_rfl, by kernel_rfl, by kernel_rfl⟩) (fun i f hf => by
      match i, hf with
      | 0, hf => cases hf; exact ⟨by kernel_rfl, by kernel_rfl, by kernel_rfl⟩
      | 1, hf => cases hf; exact ⟨by kernel_rfl, by kernel_rfl, by kernel_rfl⟩
      | 2, hf => cases hf; exact ⟨by kernel_rfl, by kernel_rfl, by kernel_rfl⟩
      | q + 3, hf => simp at hf) (hval 0 36 v0 rfl rfl) h0
  have k1 := h1
  have lt1 : ∀ x ∈ p1, x.block < W.heap.size := by obtain ⟨m, hm⟩ := k1; exact DataW.trod_lt m _ _ _ hm
  obtain ⟨q1b, x1, y1, z1, rfl, wx1, wy1, wz1⟩ := open_b3 Tryd.underlying36 (by kernel_rfl) rfl (fun f hf => by cases hf; exact ⟨by kernel_rfl, by kernel_rfl, by kernel_rfl⟩) (fun i f hf => by
      match i, hf with
      | 0, hf => cases hf; exact ⟨by kernel_rfl, by kernel_rfl, by kernel_rfl⟩
      | 1, hf => cases hf; exact ⟨by kernel_rfl, by kernel_rfl, by kernel_rfl⟩
      | 2, hf => cases hf; exact ⟨by kernel_rfl, by kernel_rfl, by kernel_rfl⟩
      | q + 3, hf => simp at hf) (hval 1 36 v1 rfl rfl) h1
  clear hA0 hval0
  refine (show Calls Tryd.prog 5 #[.agg #[.bool q0b, .int .i64 x0, .int .i64 y0, .int .i64 z0], .agg #[.bool q1b, .int .i64 x1, .int .i64 y1, .int .i64 z1]] W (fun x w' => x = .returned (.bool true) ∧ Below W.heap.size W w') from cmds_walk q0b x0 y0 z0 q1b x1 y1 z1 W (gl_of_laid hL) (wf_i64 _ wx0) (wf_i64 _ wy0) (wf_i64 _ wz0) (wf_i64 _ wx1) (wf_i64 _ wy1) (wf_i64 _ wz1)).mono fun e W' ⟨he, bel⟩ => ?_
  subst he
  exact ⟨_, rfl, _, _, _, [], _, [], hW', trodAll_mk1 (shut_bool Tryd.underlying4 _), (trodAll_cons_mk (Below.trod laidOut (by kernel_rfl) (of_decide_eq_true (by kernel_rfl)) k0 bel lt0) (trodAll_cons_mk (Below.trod laidOut (by kernel_rfl) (of_decide_eq_true (by kernel_rfl)) k1 bel lt1) trodAll_mk0)), rfl, bel.frame _, fun h => by cases h⟩

theorem said : Rows.ReplyCommandsSaid :=
  OpenClaim.holds_of_wide 5 Tryd.f5 rfl rfl rfl rfl rfl rfl rfl ⟨rfl, rfl, rfl, rfl, rfl⟩ rfl rfl rfl rfl rfl (by kernel_rfl) Tryd.func5 (by kernel_rfl)
    (of_decide_eq_true (by kernel_rfl)) (by unfold Func.isWrapper; first | (rw [if_pos (by decide +kernel)]; kernel_rfl) | (rw [if_neg (by decide +kernel)]; exact ⟨rfl, rfl⟩))
    (fun os started H enc _ => lifted os started H enc)
theorem proved : Rows.ReplyCommandsCardSaid :=
  Claim7.holds_tied_plain_at .later [] [.data, .data, .data, .sentinel, .sentinel] true (true, "711295311ffbbf00e66b60869f22bfcab43887ab0b412d0349bde0c1b242f77c") true
    said (fun _ h => by cases h) (by kernel_rfl) (fun _ h => by cases h) replyCommands_row_tie rfl ⟨rfl, rfl⟩ (by kernel_rfl) rfl
    (fun f fn hf hfn => by
      obtain rfl : f = 5 := Option.some.inj ((show Tryd.prog.funcNamed "greenhouse/greenhouselaw17.ReplyCommands" = some 5 by kernel_rfl).symm.trans hf) |>.symm
      obtain rfl : fn = Tryd.f5 := (Option.some.inj (Tryd.func5.symm.trans hfn)).symm
      exact ⟨by kernel_rfl, fun j t ht => by
        rw [Tryd.params5] at ht
        rcases j with _ | j
        · obtain rfl : t = 36 := by simpa using ht.symm
          exact (show Tryd.prog.wantsStandIn 36 = false by kernel_rfl)
        rcases j with _ | j
        · obtain rfl : t = 36 := by simpa using ht.symm
          exact (show Tryd.prog.wantsStandIn 36 = false by kernel_rfl)
        simp at ht⟩)
    (by kernel_rfl)
#print axioms proved
end Go.Proofs.YtkfhgdnlieaedaaDoor.replyCommands
