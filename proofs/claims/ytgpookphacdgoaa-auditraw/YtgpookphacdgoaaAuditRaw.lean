/-
  Proved: for every input the law AuditRaw returns true, and its arguments read afterwards as before. No condition.
-/
import Derived.Test.YtgpookphacdgoaaRows
import Derived.WalkKit
import Derived.ProofKit
import Derived.OpenShut
import Derived.ShutString
import Derived.ChangeOld
import Derived.Below
import Derived.Carry
import Derived.Test.YtgpookphacdgoaaAuYr
namespace Go.Proofs.Ytgpookphacdgoaa.auditRaw
open Go.ChangeShapes Go.WideShapes Go.ChangeAt Go.RowKit Go.Proofs.Ytgpookphacdgoaa.W Go.Proofs.Ytgpookphacdgoaa.W.U
open Go.ChangeMaps (open_string shut_string)
set_option linter.unusedVariables false

theorem own : ownKnob Try.prog.godebug = none := by kernel_rfl
theorem laidOut : laidOutB Try.prog = true := by kernel_rfl

set_option maxRecDepth 100000 in
theorem lifted (os : Os) (started : os.Started) (H : Type) (enc : TypeId × Value → H) :
    ReturnsInHanded {} Try.checked os 3 .any (Rows.auditRawSpec.pre6 enc Try.prog Try.f3 Rows.auditRawRow.domain false) (Rows.auditRawSpec.post enc Try.prog Try.f3 false true false false) := by
  refine returnsInHanded_of_change (C := Try.checked) own started (by kernel_rfl) Try.func3
    (ChangeSpec.witness6 (enc := enc) (C := Try.checked) false ⟨#[], #[.slice none 0 0], []⟩ 8 (by kernel_rfl) (by kernel_rfl) (by kernel_rfl) (by kernel_rfl)) ?_
  intro W base args ds gs before hval0 hW hcnd _
  have hval : ∀ (j : Nat) t v, Try.f3.params[j]? = some t → args[j]? = some v → Value.okWide Try.prog W .any base t v := hval0
  have hW' := hW
  obtain ⟨p, q, hA0, hV, rfl, hfz, hnd⟩ := hW
  have hA : DataW.TrodAll enc Try.prog W 0 (fun _ => true) true Try.f3.params.toList args.toList ds p := hA0
  rw [Try.params3] at hA hval
  obtain ⟨v0, vs0, d0, ds0, p0, q0, hargs, rfl, rfl, h0, r0⟩ := trodAll_cons hA
  obtain ⟨rfl, rfl, rfl⟩ := trodAll_nil r0
  obtain rfl : args = #[v0] := by cases args; simp_all
  obtain ⟨rfl, rfl⟩ := trodVars_none hV
  have k0 := h0
  have lt0 : ∀ x ∈ p0, x.block < W.heap.size := by obtain ⟨m, hm⟩ := k0; exact DataW.trod_lt m _ _ _ hm
  obtain ⟨a0, len0, cap0, rfl⟩ := okWide_slice Try.underlying22 (hval 0 22 v0 rfl rfl)
  obtain ⟨S0, hm0, st0⟩ : ∃ S : Nat → (Nat → Int) × Option Addr × Nat × Nat × (Nat → CmdO), len0 ≤ maxLen ∧ ∀ k, k < len0 → ∃ ad, a0 = some ad ∧ StO W ad k (S k) := by
    obtain ⟨fuel, hf⟩ := h0
    rcases open_steps' Try.underlying26 Try.underlying31 Try.underlying32 Try.underlying38 Try.underlying22 Try.underlying34 (by kernel_rfl) rfl (fun f hf => by cases hf; exact ⟨rfl, rfl, by kernel_rfl⟩) (fun f hf => by cases hf; exact ⟨rfl, rfl, by kernel_rfl⟩) (fun f hf => by cases hf; exact ⟨rfl, rfl, by kernel_rfl⟩) rfl (fun i f hf => by
      match i, hf with
      | 0, hf => cases hf; exact ⟨by kernel_rfl, by kernel_rfl, by kernel_rfl⟩
      | 1, hf => cases hf; exact ⟨by kernel_rfl, by kernel_rfl, by kernel_rfl⟩
      | 2, hf => cases hf; exact ⟨by kernel_rfl, by kernel_rfl, by kernel_rfl⟩
      | 3, hf => cases hf; exact ⟨by kernel_rfl, by kernel_rfl, by kernel_rfl⟩
      | 4, hf => cases hf; exact ⟨by kernel_rfl, by kernel_rfl, by kernel_rfl⟩
      | 5, hf => cases hf; exact ⟨by kernel_rfl, by kernel_rfl, by kernel_rfl⟩
      | 6, hf => cases hf; exact ⟨by kernel_rfl, by kernel_rfl, by kernel_rfl⟩
      | 7, hf => cases hf; exact ⟨by kernel_rfl, by kernel_rfl, by kernel_rfl⟩
      | 8, hf => cases hf; exact ⟨by kernel_rfl, by kernel_rfl, by kernel_rfl⟩
      | 9, hf => cases hf; exact ⟨by kernel_rfl, by kernel_rfl, by kernel_rfl⟩
      | q + 10, hf => simp at hf) rfl (fun i f hf => by
      match i, hf with
      | 0, hf => cases hf; exact ⟨by kernel_rfl, by kernel_rfl, by kernel_rfl⟩
      | 1, hf => cases hf; exact ⟨by kernel_rfl, by kernel_rfl, by kernel_rfl⟩
      | 2, hf => cases hf; exact ⟨by kernel_rfl, by kernel_rfl, by kernel_rfl⟩
      | 3, hf => cases hf; exact ⟨by kernel_rfl, by kernel_rfl, by kernel_rfl⟩
      | q + 4, hf => simp at hf) (by kernel_rfl) rfl (fun f hf => by cases hf; exact ⟨by kernel_rfl, by kernel_rfl, by kernel_rfl⟩) (fun i f hi hf => by
      match i, hi, hf with
      | 1, _, hf => cases hf; exact ⟨by kernel_rfl, by kernel_rfl, by kernel_rfl⟩
      | 2, _, hf => cases hf; exact ⟨by kernel_rfl, by kernel_rfl, by kernel_rfl⟩
      | 3, _, hf => cases hf; exact ⟨by kernel_rfl, by kernel_rfl, by kernel_rfl⟩
      | q + 4, _, hf => simp at hf) hf with hcs | ⟨x, l, c, S, hcs, hl, hm, hS⟩
    · simp [Value.cells] at hcs
      obtain ⟨rfl, rfl, rfl⟩ := hcs
      exact ⟨fun _ => (fun _ => 0, none, 0, 0, fun _ => (false, 0, 0, 0)), Nat.zero_le _, fun k hk => by omega⟩
    · simp [Value.cells] at hcs
      obtain ⟨rfl, rfl, rfl⟩ := hcs
      exact ⟨S, Nat.le_trans hl hm, fun k hk => ⟨x, rfl, hS k hk⟩⟩
  clear hA0 hval0
  refine ((araw_walk W a0 len0 cap0 S0 hm0 st0)).mono fun e W' ⟨he, bel⟩ => ?_
  subst he
  exact ⟨_, rfl, _, _, _, [], _, [], hW', trodAll_mk1 (shut_bool Try.underlying4 _), (trodAll_cons_mk (Below.trod laidOut (by kernel_rfl) (of_decide_eq_true (by kernel_rfl)) k0 bel lt0) trodAll_mk0), rfl, bel.frame _, fun h => by cases h⟩

theorem proved : Rows.AuditRawSaid :=
  OpenClaim.holds_of_wide 3 Try.f3 rfl rfl rfl rfl rfl rfl rfl ⟨rfl, rfl, rfl, rfl, rfl⟩ rfl rfl rfl rfl rfl (by kernel_rfl) Try.func3 (by kernel_rfl)
    (of_decide_eq_true (by kernel_rfl)) (by unfold Func.isWrapper; first | (rw [if_pos (by decide +kernel)]; kernel_rfl) | (rw [if_neg (by decide +kernel)]; exact ⟨rfl, rfl⟩))
    (fun os started H enc _ => lifted os started H enc)
#print axioms proved
end Go.Proofs.Ytgpookphacdgoaa.auditRaw
