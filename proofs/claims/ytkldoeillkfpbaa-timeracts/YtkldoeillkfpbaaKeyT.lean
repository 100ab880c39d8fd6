/- Keys that are structs of two ints: what they read as. -/
import Derived.Test.YtkldoeillkfpbaaRows
import Derived.Test.YtkldoeillkfpbaaHeapT
import Derived.Test.YtkldoeillkfpbaaMp
import Derived.DeepKeys4
namespace Go.Proofs.Ytkldoeillkfpbaa.W.HT
open Go.RowKit Go.Maps

abbrev kv (x : K) : Value := .agg #[.int .i64 x.1, .int .i64 x.2]
def KS (x : K) : Lit := .string (keyBytes [.int .i64 x.1, .int .i64 x.2])
def kw (x : K) : Prop := (Lit.int .i64 x.1).wf = true ∧ (Lit.int .i64 x.2).wf = true
theorem kw0 : kw (0, 0) := ⟨by decide, by decide⟩
theorem kv_inj {x y : K} (h : kv x = kv y) : x = y := by
  simp only [kv, Value.agg.injEq, Array.mk.injEq, List.cons.injEq, Value.int.injEq, true_and, and_true] at h
  exact Prod.ext h.1 h.2
structure Kd (P : Program) (k : TypeId) : Prop where
  keyed : Keyed P k
  made : ∀ x : K, kw x → keyOf P k (kv x) = some (KS x)
  inv : ∀ {v : Value} {l : Lit}, keyOf P k v = some l → ∃ x : K, v = kv x ∧ l = KS x ∧ kw x
theorem Kd.inj {P : Program} {k : TypeId} (h : Kd P k) {x y : K} (hx : kw x) (hy : kw y) (q : KS x = KS y) : x = y :=
  kv_inj (h.keyed.inj (h.made x hx) (by rw [q]; exact h.made y hy))

theorem litI {P : Program} {e : TypeId} (he : P.underlying e = some (.int .i64)) (m : Nat) (x : Value) (l : List Lit) (h : P.keyLits (m + 1) e [x] = some l) : ∃ n : Int, x = .int .i64 n ∧ (Lit.int .i64 n).wf = true ∧ l = [.int .i64 n] := by
  unfold Program.keyLits at h
  simp only [he] at h
  cases x <;> simp at h
  obtain ⟨⟨rfl, h2⟩, h3⟩ := h
  exact ⟨_, rfl, h2, h3.symm⟩
theorem litI' {P : Program} {e : TypeId} (he : P.underlying e = some (.int .i64)) (m : Nat) (n : Int) (h : (Lit.int .i64 n).wf = true) : P.keyLits (m + 1) e [.int .i64 n] = some [.int .i64 n] := by
  unfold Program.keyLits
  simp [he, h]
theorem kd_of {P : Program} {k e : TypeId} {f1 f2 : Field} (hu : P.underlying k = some (.struct #[f1, f2])) (he : P.underlying e = some (.int .i64)) (t1 : f1.type = e) (t2 : f2.type = e) (o1 : f1.offset = 0) (o2 : f2.offset = 1) (hn : (#[f1, f2] : Array Field).all (·.name != "_") = true)
    (hc : P.cellsOf k = 2) (hce : P.cellsOf e = 1) (hk : P.keyType k = true) (hs : ∃ m, P.types.size = m + 1) (hK : Keyed P k) : Kd P k where
  keyed := hK
  made := by
    intro x hx
    obtain ⟨m, hm⟩ := hs
    unfold keyOf
    simp only [hu]
    rw [if_pos (by simp [hk, Value.formed, hu, hc]), hm]
    unfold Program.keyLits
    simp only [hu, Value.cells]
    rw [if_pos (by rw [hc]; exact ⟨rfl, hn⟩)]
    simp [t1, t2, o1, o2, hce, litI' he m _ hx.1, litI' he m _ hx.2, KS]
  inv := by
    intro v l h
    obtain ⟨m, hm⟩ := hs
    unfold keyOf at h
    simp only [hu] at h
    split at h
    · rename_i hf
      rw [hm] at h
      simp only [Bool.and_eq_true] at hf
      obtain ⟨_, hf⟩ := hf
      cases v with
      | agg cs =>
        simp [Value.formed, hu, hc] at hf
        obtain ⟨cs⟩ := cs
        match cs, hf with
        | [c0, c1], _ =>
          unfold Program.keyLits at h
          simp only [hu, Value.cells] at h
          rw [if_pos (by rw [hc]; exact ⟨rfl, hn⟩)] at h
          simp [t1, t2, o1, o2, hce] at h
          cases h1 : P.keyLits (m + 1) e [c0] with
          | none => simp [h1] at h
          | some l1 =>
            cases h2 : P.keyLits (m + 1) e [c1] with
            | none => simp [h1, h2] at h
            | some l2 =>
              obtain ⟨n, rfl, w1, rfl⟩ := litI he m _ _ h1
              obtain ⟨n', rfl, w2, rfl⟩ := litI he m _ _ h2
              simp [h1, h2] at h
              exact ⟨(n, n'), rfl, h.symm, w1, w2⟩
      | _ => simp [Value.formed, hu] at hf
    · cases h
theorem rowK : (30 : Nat) < Try.prog.types.size := of_decide_eq_true (by kernel_rfl)
theorem sizeP : ∃ m, Try.prog.types.size = m + 1 := Nat.exists_eq_succ_of_ne_zero (fun h => by have := rowK; rw [h] at this; exact absurd this (Nat.not_lt_zero _))
theorem kd : Kd Try.prog 30 :=
  kd_of Try.underlying30 Try.underlying3 rfl rfl rfl rfl (by kernel_rfl) (by kernel_rfl) (by kernel_rfl) (by kernel_rfl) sizeP
    (Keyed.of_law (deep_law_laid (show laidOutB Try.prog = true by kernel_rfl) (m := 2) (by omega) rowK (by kernel_rfl) (by kernel_rfl)))
end Go.Proofs.Ytkldoeillkfpbaa.W.HT
