/- Package audit: a step. -/
import Derived.Test.YtgpookphacdgoaaAuI
import Derived.Test.YtgpookphacdgoaaAuR
import Derived.Test.YtgpookphacdgoaaAuQ
namespace Go.Proofs.Ytgpookphacdgoaa.W.U
open Go.RowKit Go.Maps Go.ChangeMaps Go.MapKept Go.Proofs.Ytgpookphacdgoaa.W

theorem stp_bad {W : Wd} {e : Ev} {a : An} {cs : List Cmd} (h : ¬ right e ∨ ¬ okA a) : stp W (e, a, cs) = none := by unfold stp; rw [if_pos h]
theorem stp_ref {W : Wd} {e : Ev} {a : An} {cs : List Cmd} (h1 : right e) (h2 : okA a) (h : a.k = 1) : stp W (e, a, cs) = if cs = [] then some W else none := by
  unfold stp; rw [if_neg (fun q => q.elim (fun q => q h1) (fun q => q h2))]; dsimp only; rw [if_pos h]
theorem stp_mix {W : Wd} {e : Ev} {a : An} {cs : List Cmd} (h1 : right e) (h2 : okA a) (h3 : a.k ≠ 1) (h : e.k ≠ 6 ∧ a.k ≠ 0 ∨ e.k = 6 ∧ a.k = 0) : stp W (e, a, cs) = none := by
  unfold stp; rw [if_neg (fun q => q.elim (fun q => q h1) (fun q => q h2))]; dsimp only; rw [if_neg h3, if_pos h]
theorem stp_go {W : Wd} {e : Ev} {a : An} {cs : List Cmd} (h1 : right e) (h2 : okA a) (h3 : a.k ≠ 1) (h : ¬ (e.k ≠ 6 ∧ a.k ≠ 0 ∨ e.k = 6 ∧ a.k = 0)) : stp W (e, a, cs) = match hap W e with
    | none => none
    | some W1 => match cmds W1 cs with
      | none => none
      | some W2 => clo W2 e a cs := by
  unfold stp; rw [if_neg (fun q => q.elim (fun q => q h1) (fun q => q h2))]; dsimp only; rw [if_neg h3, if_neg h]; rfl
theorem hap_6 {W : Wd} {e : Ev} (h : e.k = 6) : hap W e = some W := by unfold hap; simp [h]
theorem clo_not6 {W : Wd} {e : Ev} {a : An} {cs : List Cmd} (h : e.k ≠ 6) : clo W e a cs = some W := by unfold clo; rw [if_pos h]


set_option maxRecDepth 100000 in
set_option maxHeartbeats 1600000 in
theorem c_step1 {w : World} {own : Nat → Option Tag} {y : Lay} {s : Vs} {W : Wd} {N : Nat} (h : Cor w own y s) (S : Sim s W N) {e0 e1 e2 e3 e4 e5 e6 e7 e8 e9 a0 a1 a2 a3 : Int} {sA : Option Addr} {sl sc : Nat} (hr : ¬ right ⟨e0, e1, e2, e3, e4, e5, e6, e7, e8, e9⟩) : Calls Try.prog 9 #[ptr y.v, .agg #[.int .i64 e0, .int .i64 e1, .int .i64 e2, .int .i64 e3, .int .i64 e4, .int .i64 e5, .int .i64 e6, .int .i64 e7, .int .i64 e8, .int .i64 e9, .int .i64 a0, .int .i64 a1, .int .i64 a2, .int .i64 a3, .slice sA sl sc]] w (Res w own y.v N none) := by
  have HR := Lib.hid hr
  have N0 := Nx.refl w own
  have h0 := h
  clear h
  go_enter Try.func9, Try.ntmps9
  go_wp2_with fail
  have HB1 := heap_alloc_new w (.cells #[.int .i64 e0, .int .i64 e1, .int .i64 e2, .int .i64 e3, .int .i64 e4, .int .i64 e5, .int .i64 e6, .int .i64 e7, .int .i64 e8, .int .i64 e9, .int .i64 a0, .int .i64 a1, .int .i64 a2, .int .i64 a3, .slice sA sl sc] 34)
  have HO1 := h0.fresh (Nat.le_refl w.heap.size)
  have h1 := h0.alloc (.cells #[.int .i64 e0, .int .i64 e1, .int .i64 e2, .int .i64 e3, .int .i64 e4, .int .i64 e5, .int .i64 e6, .int .i64 e7, .int .i64 e8, .int .i64 e9, .int .i64 a0, .int .i64 a1, .int .i64 a2, .int .i64 a3, .slice sA sl sc] 34)
  have N1 := N0.alloc (.cells #[.int .i64 e0, .int .i64 e1, .int .i64 e2, .int .i64 e3, .int .i64 e4, .int .i64 e5, .int .i64 e6, .int .i64 e7, .int .i64 e8, .int .i64 e9, .int .i64 a0, .int .i64 a1, .int .i64 a2, .int .i64 a3, .slice sA sl sc] 34)
  obtain ⟨H, hH⟩ : ∃ H, w.heap.size = H := ⟨_, rfl⟩
  rw [hH] at HB1 HO1
  try rw [hH]
  have HH := Lib.hid hH
  clear hH
  generalize w.alloc (.cells #[.int .i64 e0, .int .i64 e1, .int .i64 e2, .int .i64 e3, .int .i64 e4, .int .i64 e5, .int .i64 e6, .int .i64 e7, .int .i64 e8, .int .i64 e9, .int .i64 a0, .int .i64 a1, .int .i64 a2, .int .i64 a3, .slice sA sl sc] 34) = w1 at HB1 h1 N1 ⊢
  replace HB1 := Lib.hid HB1
  replace HO1 := Lib.hid HO1
  clear h0 N0
  refine (right_any e0 e1 e2 e3 e4 e5 e6 e7 e8 e9 w1 false ⟨fun q => (nomatch q), fun q => absurd q HR.out⟩).mono ?_
  rintro r1 w2 ⟨rfl, b2⟩
  have h2 := h1.below b2
  have N2 := N1.trans (Nx.below own b2)
  have HB2 : Hid (w2.heap[H]? = some (.cells #[.int .i64 e0, .int .i64 e1, .int .i64 e2, .int .i64 e3, .int .i64 e4, .int .i64 e5, .int .i64 e6, .int .i64 e7, .int .i64 e8, .int .i64 e9, .int .i64 a0, .int .i64 a1, .int .i64 a2, .int .i64 a3, .slice sA sl sc] 34 (0, 0))) := Lib.hid (by rw [b2.block H (lt_of_row HB1.out)]; exact HB1.out)
  have HO2 := HO1
  clear HB1 HO1 h1 N1 b2
  go_wp2
  go_ret
  exact Res.no rfl rfl N2

set_option maxRecDepth 100000 in
set_option maxHeartbeats 1600000 in
theorem c_step2 {w : World} {own : Nat → Option Tag} {y : Lay} {s : Vs} {W : Wd} {N : Nat} (h : Cor w own y s) (S : Sim s W N) {e0 e1 e2 e3 e4 e5 e6 e7 e8 e9 a0 a1 a2 a3 : Int} {sA : Option Addr} {sl sc : Nat} (hr : right ⟨e0, e1, e2, e3, e4, e5, e6, e7, e8, e9⟩) (ha : ¬ okA ⟨a0, a1, a2, a3⟩) : Calls Try.prog 9 #[ptr y.v, .agg #[.int .i64 e0, .int .i64 e1, .int .i64 e2, .int .i64 e3, .int .i64 e4, .int .i64 e5, .int .i64 e6, .int .i64 e7, .int .i64 e8, .int .i64 e9, .int .i64 a0, .int .i64 a1, .int .i64 a2, .int .i64 a3, .slice sA sl sc]] w (Res w own y.v N none) := by
  have HR := Lib.hid hr
  have HA := Lib.hid ha
  have N0 := Nx.refl w own
  have h0 := h
  clear h
  go_enter Try.func9, Try.ntmps9
  go_wp2_with fail
  have HB1 := heap_alloc_new w (.cells #[.int .i64 e0, .int .i64 e1, .int .i64 e2, .int .i64 e3, .int .i64 e4, .int .i64 e5, .int .i64 e6, .int .i64 e7, .int .i64 e8, .int .i64 e9, .int .i64 a0, .int .i64 a1, .int .i64 a2, .int .i64 a3, .slice sA sl sc] 34)
  have HO1 := h0.fresh (Nat.le_refl w.heap.size)
  have h1 := h0.alloc (.cells #[.int .i64 e0, .int .i64 e1, .int .i64 e2, .int .i64 e3, .int .i64 e4, .int .i64 e5, .int .i64 e6, .int .i64 e7, .int .i64 e8, .int .i64 e9, .int .i64 a0, .int .i64 a1, .int .i64 a2, .int .i64 a3, .slice sA sl sc] 34)
  have N1 := N0.alloc (.cells #[.int .i64 e0, .int .i64 e1, .int .i64 e2, .int .i64 e3, .int .i64 e4, .int .i64 e5, .int .i64 e6, .int .i64 e7, .int .i64 e8, .int .i64 e9, .int .i64 a0, .int .i64 a1, .int .i64 a2, .int .i64 a3, .slice sA sl sc] 34)
  obtain ⟨H, hH⟩ : ∃ H, w.heap.size = H := ⟨_, rfl⟩
  rw [hH] at HB1 HO1
  try rw [hH]
  have HH := Lib.hid hH
  clear hH
  generalize w.alloc (.cells #[.int .i64 e0, .int .i64 e1, .int .i64 e2, .int .i64 e3, .int .i64 e4, .int .i64 e5, .int .i64 e6, .int .i64 e7, .int .i64 e8, .int .i64 e9, .int .i64 a0, .int .i64 a1, .int .i64 a2, .int .i64 a3, .slice sA sl sc] 34) = w1 at HB1 h1 N1 ⊢
  replace HB1 := Lib.hid HB1
  replace HO1 := Lib.hid HO1
  clear h0 N0
  refine (right_any e0 e1 e2 e3 e4 e5 e6 e7 e8 e9 w1 true ⟨fun _ => HR.out, fun _ => rfl⟩).mono ?_
  rintro r1 w2 ⟨rfl, b2⟩
  have h2 := h1.below b2
  have N2 := N1.trans (Nx.below own b2)
  have HB2 : Hid (w2.heap[H]? = some (.cells #[.int .i64 e0, .int .i64 e1, .int .i64 e2, .int .i64 e3, .int .i64 e4, .int .i64 e5, .int .i64 e6, .int .i64 e7, .int .i64 e8, .int .i64 e9, .int .i64 a0, .int .i64 a1, .int .i64 a2, .int .i64 a3, .slice sA sl sc] 34 (0, 0))) := Lib.hid (by rw [b2.block H (lt_of_row HB1.out)]; exact HB1.out)
  have HO2 := HO1
  clear HB1 HO1 h1 N1 b2
  have q0 := (cellB HB2.out 10 _ rfl : w2.cell? ⟨H, 10, none⟩ = some (.int .i64 a0))
  have q1 := (cellB HB2.out 11 _ rfl : w2.cell? ⟨H, 11, none⟩ = some (.int .i64 a1))
  have q2 := (cellB HB2.out 12 _ rfl : w2.cell? ⟨H, 12, none⟩ = some (.int .i64 a2))
  have q3 := (cellB HB2.out 13 _ rfl : w2.cell? ⟨H, 13, none⟩ = some (.int .i64 a3))
  go_wp2_with fail
  clear q0 q1 q2 q3
  refine (RA.right_any a0 a1 a2 a3 w2 false ⟨fun q => (nomatch q), fun q => absurd q HA.out⟩).mono ?_
  rintro r2 w3 ⟨rfl, b3⟩
  have h3 := h2.below b3
  have N3 := N2.trans (Nx.below own b3)
  have HB3 : Hid (w3.heap[H]? = some (.cells #[.int .i64 e0, .int .i64 e1, .int .i64 e2, .int .i64 e3, .int .i64 e4, .int .i64 e5, .int .i64 e6, .int .i64 e7, .int .i64 e8, .int .i64 e9, .int .i64 a0, .int .i64 a1, .int .i64 a2, .int .i64 a3, .slice sA sl sc] 34 (0, 0))) := Lib.hid (by rw [b3.block H (lt_of_row HB2.out)]; exact HB2.out)
  have HO3 := HO2
  clear HB2 HO2 h2 N2 b3
  go_wp2
  go_ret
  exact Res.no rfl rfl N3

set_option maxRecDepth 100000 in
set_option maxHeartbeats 1600000 in
theorem c_step3y {w : World} {own : Nat → Option Tag} {y : Lay} {s : Vs} {W : Wd} {N : Nat} (h : Cor w own y s) (S : Sim s W N) {e0 e1 e2 e3 e4 e5 e6 e7 e8 e9 a1 a2 a3 : Int} {sA : Option Addr} {sl sc : Nat} (hr : right ⟨e0, e1, e2, e3, e4, e5, e6, e7, e8, e9⟩) (ha : okA ⟨1, a1, a2, a3⟩) (hsl : sl = 0) : Calls Try.prog 9 #[ptr y.v, .agg #[.int .i64 e0, .int .i64 e1, .int .i64 e2, .int .i64 e3, .int .i64 e4, .int .i64 e5, .int .i64 e6, .int .i64 e7, .int .i64 e8, .int .i64 e9, .int .i64 1, .int .i64 a1, .int .i64 a2, .int .i64 a3, .slice sA sl sc]] w (Res w own y.v N (some W)) := by
  have HR := Lib.hid hr
  have HA := Lib.hid ha
  subst hsl
  have N0 := Nx.refl w own
  have h0 := h
  clear h
  go_enter Try.func9, Try.ntmps9
  go_wp2_with fail
  have HB1 := heap_alloc_new w (.cells #[.int .i64 e0, .int .i64 e1, .int .i64 e2, .int .i64 e3, .int .i64 e4, .int .i64 e5, .int .i64 e6, .int .i64 e7, .int .i64 e8, .int .i64 e9, .int .i64 1, .int .i64 a1, .int .i64 a2, .int .i64 a3, .slice sA 0 sc] 34)
  have HO1 := h0.fresh (Nat.le_refl w.heap.size)
  have h1 := h0.alloc (.cells #[.int .i64 e0, .int .i64 e1, .int .i64 e2, .int .i64 e3, .int .i64 e4, .int .i64 e5, .int .i64 e6, .int .i64 e7, .int .i64 e8, .int .i64 e9, .int .i64 1, .int .i64 a1, .int .i64 a2, .int .i64 a3, .slice sA 0 sc] 34)
  have N1 := N0.alloc (.cells #[.int .i64 e0, .int .i64 e1, .int .i64 e2, .int .i64 e3, .int .i64 e4, .int .i64 e5, .int .i64 e6, .int .i64 e7, .int .i64 e8, .int .i64 e9, .int .i64 1, .int .i64 a1, .int .i64 a2, .int .i64 a3, .slice sA 0 sc] 34)
  obtain ⟨H, hH⟩ : ∃ H, w.heap.size = H := ⟨_, rfl⟩
  rw [hH] at HB1 HO1
  try rw [hH]
  have HH := Lib.hid hH
  clear hH
  generalize w.alloc (.cells #[.int .i64 e0, .int .i64 e1, .int .i64 e2, .int .i64 e3, .int .i64 e4, .int .i64 e5, .int .i64 e6, .int .i64 e7, .int .i64 e8, .int .i64 e9, .int .i64 1, .int .i64 a1, .int .i64 a2, .int .i64 a3, .slice sA 0 sc] 34) = w1 at HB1 h1 N1 ⊢
  replace HB1 := Lib.hid HB1
  replace HO1 := Lib.hid HO1
  clear h0 N0
  refine (right_any e0 e1 e2 e3 e4 e5 e6 e7 e8 e9 w1 true ⟨fun _ => HR.out, fun _ => rfl⟩).mono ?_
  rintro r1 w2 ⟨rfl, b2⟩
  have h2 := h1.below b2
  have N2 := N1.trans (Nx.below own b2)
  have HB2 : Hid (w2.heap[H]? = some (.cells #[.int .i64 e0, .int .i64 e1, .int .i64 e2, .int .i64 e3, .int .i64 e4, .int .i64 e5, .int .i64 e6, .int .i64 e7, .int .i64 e8, .int .i64 e9, .int .i64 1, .int .i64 a1, .int .i64 a2, .int .i64 a3, .slice sA 0 sc] 34 (0, 0))) := Lib.hid (by rw [b2.block H (lt_of_row HB1.out)]; exact HB1.out)
  have HO2 := HO1
  clear HB1 HO1 h1 N1 b2
  have q0 := (cellB HB2.out 10 _ rfl : w2.cell? ⟨H, 10, none⟩ = some (.int .i64 1))
  have q1 := (cellB HB2.out 11 _ rfl : w2.cell? ⟨H, 11, none⟩ = some (.int .i64 a1))
  have q2 := (cellB HB2.out 12 _ rfl : w2.cell? ⟨H, 12, none⟩ = some (.int .i64 a2))
  have q3 := (cellB HB2.out 13 _ rfl : w2.cell? ⟨H, 13, none⟩ = some (.int .i64 a3))
  go_wp2_with fail
  clear q0 q1 q2 q3
  refine (RA.right_any 1 a1 a2 a3 w2 true ⟨fun _ => HA.out, fun _ => rfl⟩).mono ?_
  rintro r2 w3 ⟨rfl, b3⟩
  have h3 := h2.below b3
  have N3 := N2.trans (Nx.below own b3)
  have HB3 : Hid (w3.heap[H]? = some (.cells #[.int .i64 e0, .int .i64 e1, .int .i64 e2, .int .i64 e3, .int .i64 e4, .int .i64 e5, .int .i64 e6, .int .i64 e7, .int .i64 e8, .int .i64 e9, .int .i64 1, .int .i64 a1, .int .i64 a2, .int .i64 a3, .slice sA 0 sc] 34 (0, 0))) := Lib.hid (by rw [b3.block H (lt_of_row HB2.out)]; exact HB2.out)
  have HO3 := HO2
  clear HB2 HO2 h2 N2 b3
  have q4 := (cellB HB3.out 10 _ rfl : w3.cell? ⟨H, 10, none⟩ = some (.int .i64 1))
  have q5 := (cellB HB3.out 14 _ rfl : w3.cell? ⟨H, 14, none⟩ = some (.slice sA 0 sc))
  go_wp2
  go_ret
  exact Res.yes rfl rfl rfl N3 h3 S

set_option maxRecDepth 100000 in
set_option maxHeartbeats 1600000 in
theorem c_step3n {w : World} {own : Nat → Option Tag} {y : Lay} {s : Vs} {W : Wd} {N : Nat} (h : Cor w own y s) (S : Sim s W N) {e0 e1 e2 e3 e4 e5 e6 e7 e8 e9 a1 a2 a3 : Int} {sA : Option Addr} {sl sc : Nat} (hr : right ⟨e0, e1, e2, e3, e4, e5, e6, e7, e8, e9⟩) (ha : okA ⟨1, a1, a2, a3⟩) (hsl : sl ≠ 0) : Calls Try.prog 9 #[ptr y.v, .agg #[.int .i64 e0, .int .i64 e1, .int .i64 e2, .int .i64 e3, .int .i64 e4, .int .i64 e5, .int .i64 e6, .int .i64 e7, .int .i64 e8, .int .i64 e9, .int .i64 1, .int .i64 a1, .int .i64 a2, .int .i64 a3, .slice sA sl sc]] w (Res w own y.v N none) := by
  have HR := Lib.hid hr
  have HA := Lib.hid ha
  have hz : ((sl : Int) == 0) = false := beq_false_of_ne (by omega)
  have N0 := Nx.refl w own
  have h0 := h
  clear h
  go_enter Try.func9, Try.ntmps9
  go_wp2_with fail
  have HB1 := heap_alloc_new w (.cells #[.int .i64 e0, .int .i64 e1, .int .i64 e2, .int .i64 e3, .int .i64 e4, .int .i64 e5, .int .i64 e6, .int .i64 e7, .int .i64 e8, .int .i64 e9, .int .i64 1, .int .i64 a1, .int .i64 a2, .int .i64 a3, .slice sA sl sc] 34)
  have HO1 := h0.fresh (Nat.le_refl w.heap.size)
  have h1 := h0.alloc (.cells #[.int .i64 e0, .int .i64 e1, .int .i64 e2, .int .i64 e3, .int .i64 e4, .int .i64 e5, .int .i64 e6, .int .i64 e7, .int .i64 e8, .int .i64 e9, .int .i64 1, .int .i64 a1, .int .i64 a2, .int .i64 a3, .slice sA sl sc] 34)
  have N1 := N0.alloc (.cells #[.int .i64 e0, .int .i64 e1, .int .i64 e2, .int .i64 e3, .int .i64 e4, .int .i64 e5, .int .i64 e6, .int .i64 e7, .int .i64 e8, .int .i64 e9, .int .i64 1, .int .i64 a1, .int .i64 a2, .int .i64 a3, .slice sA sl sc] 34)
  obtain ⟨H, hH⟩ : ∃ H, w.heap.size = H := ⟨_, rfl⟩
  rw [hH] at HB1 HO1
  try rw [hH]
  have HH := Lib.hid hH
  clear hH
  generalize w.alloc (.cells #[.int .i64 e0, .int .i64 e1, .int .i64 e2, .int .i64 e3, .int .i64 e4, .int .i64 e5, .int .i64 e6, .int .i64 e7, .int .i64 e8, .int .i64 e9, .int .i64 1, .int .i64 a1, .int .i64 a2, .int .i64 a3, .slice sA sl sc] 34) = w1 at HB1 h1 N1 ⊢
  replace HB1 := Lib.hid HB1
  replace HO1 := Lib.hid HO1
  clear h0 N0
  refine (right_any e0 e1 e2 e3 e4 e5 e6 e7 e8 e9 w1 true ⟨fun _ => HR.out, fun _ => rfl⟩).mono ?_
  rintro r1 w2 ⟨rfl, b2⟩
  have h2 := h1.below b2
  have N2 := N1.trans (Nx.below own b2)
  have HB2 : Hid (w2.heap[H]? = some (.cells #[.int .i64 e0, .int .i64 e1, .int .i64 e2, .int .i64 e3, .int .i64 e4, .int .i64 e5, .int .i64 e6, .int .i64 e7, .int .i64 e8, .int .i64 e9, .int .i64 1, .int .i64 a1, .int .i64 a2, .int .i64 a3, .slice sA sl sc] 34 (0, 0))) := Lib.hid (by rw [b2.block H (lt_of_row HB1.out)]; exact HB1.out)
  have HO2 := HO1
  clear HB1 HO1 h1 N1 b2
  have q0 := (cellB HB2.out 10 _ rfl : w2.cell? ⟨H, 10, none⟩ = some (.int .i64 1))
  have q1 := (cellB HB2.out 11 _ rfl : w2.cell? ⟨H, 11, none⟩ = some (.int .i64 a1))
  have q2 := (cellB HB2.out 12 _ rfl : w2.cell? ⟨H, 12, none⟩ = some (.int .i64 a2))
  have q3 := (cellB HB2.out 13 _ rfl : w2.cell? ⟨H, 13, none⟩ = some (.int .i64 a3))
  go_wp2_with fail
  clear q0 q1 q2 q3
  refine (RA.right_any 1 a1 a2 a3 w2 true ⟨fun _ => HA.out, fun _ => rfl⟩).mono ?_
  rintro r2 w3 ⟨rfl, b3⟩
  have h3 := h2.below b3
  have N3 := N2.trans (Nx.below own b3)
  have HB3 : Hid (w3.heap[H]? = some (.cells #[.int .i64 e0, .int .i64 e1, .int .i64 e2, .int .i64 e3, .int .i64 e4, .int .i64 e5, .int .i64 e6, .int .i64 e7, .int .i64 e8, .int .i64 e9, .int .i64 1, .int .i64 a1, .int .i64 a2, .int .i64 a3, .slice sA sl sc] 34 (0, 0))) := Lib.hid (by rw [b3.block H (lt_of_row HB2.out)]; exact HB2.out)
  have HO3 := HO2
  clear HB2 HO2 h2 N2 b3
  have q4 := (cellB HB3.out 10 _ rfl : w3.cell? ⟨H, 10, none⟩ = some (.int .i64 1))
  have q5 := (cellB HB3.out 14 _ rfl : w3.cell? ⟨H, 14, none⟩ = some (.slice sA sl sc))
  go_wp2
  go_ret
  exact Res.no rfl rfl N3

set_option maxRecDepth 100000 in
set_option maxHeartbeats 1600000 in
theorem c_step4 {w : World} {own : Nat → Option Tag} {y : Lay} {s : Vs} {W : Wd} {N : Nat} (h : Cor w own y s) (S : Sim s W N) {e1 e2 e3 e4 e5 e6 e7 e8 e9 a0 a1 a2 a3 : Int} {sA : Option Addr} {sl sc : Nat} {B : Nat} {cs : List Cmd} (hcs : cs.length = sl) (hcl : CL w B sA cs) (hcw : ∀ c ∈ cs, cwf c) (hB : Base own w B) (hN : N + 2 * sl + 2 < 1048570) (hr : right ⟨6, e1, e2, e3, e4, e5, e6, e7, e8, e9⟩) (ha : okA ⟨a0, a1, a2, a3⟩) (hn1 : a0 ≠ 1) : Calls Try.prog 9 #[ptr y.v, .agg #[.int .i64 6, .int .i64 e1, .int .i64 e2, .int .i64 e3, .int .i64 e4, .int .i64 e5, .int .i64 e6, .int .i64 e7, .int .i64 e8, .int .i64 e9, .int .i64 a0, .int .i64 a1, .int .i64 a2, .int .i64 a3, .slice sA sl sc]] w (Res w own y.v (N + 2 * sl + 2) (stp W (⟨6, e1, e2, e3, e4, e5, e6, e7, e8, e9⟩, ⟨a0, a1, a2, a3⟩, cs))) := by
  have HR := Lib.hid hr
  have HA := Lib.hid ha
  have HCS := Lib.hid hcs
  have HCL := Lib.hid hcl
  have HCW := Lib.hid hcw
  have HBS := Lib.hid hB
  clear hcs hcl hcw hB
  have N0 := Nx.refl w own
  have h0 := h
  clear h
  go_enter Try.func9, Try.ntmps9
  go_wp2_with fail
  have HB1 := heap_alloc_new w (.cells #[.int .i64 6, .int .i64 e1, .int .i64 e2, .int .i64 e3, .int .i64 e4, .int .i64 e5, .int .i64 e6, .int .i64 e7, .int .i64 e8, .int .i64 e9, .int .i64 a0, .int .i64 a1, .int .i64 a2, .int .i64 a3, .slice sA sl sc] 34)
  have HO1 := h0.fresh (Nat.le_refl w.heap.size)
  have h1 := h0.alloc (.cells #[.int .i64 6, .int .i64 e1, .int .i64 e2, .int .i64 e3, .int .i64 e4, .int .i64 e5, .int .i64 e6, .int .i64 e7, .int .i64 e8, .int .i64 e9, .int .i64 a0, .int .i64 a1, .int .i64 a2, .int .i64 a3, .slice sA sl sc] 34)
  have N1 := N0.alloc (.cells #[.int .i64 6, .int .i64 e1, .int .i64 e2, .int .i64 e3, .int .i64 e4, .int .i64 e5, .int .i64 e6, .int .i64 e7, .int .i64 e8, .int .i64 e9, .int .i64 a0, .int .i64 a1, .int .i64 a2, .int .i64 a3, .slice sA sl sc] 34)
  obtain ⟨H, hH⟩ : ∃ H, w.heap.size = H := ⟨_, rfl⟩
  rw [hH] at HB1 HO1
  try rw [hH]
  have HH := Lib.hid hH
  clear hH
  generalize w.alloc (.cells #[.int .i64 6, .int .i64 e1, .int .i64 e2, .int .i64 e3, .int .i64 e4, .int .i64 e5, .int .i64 e6, .int .i64 e7, .int .i64 e8, .int .i64 e9, .int .i64 a0, .int .i64 a1, .int .i64 a2, .int .i64 a3, .slice sA sl sc] 34) = w1 at HB1 h1 N1 ⊢
  replace HB1 := Lib.hid HB1
  replace HO1 := Lib.hid HO1
  clear h0 N0
  refine (right_any 6 e1 e2 e3 e4 e5 e6 e7 e8 e9 w1 true ⟨fun _ => HR.out, fun _ => rfl⟩).mono ?_
  rintro r1 w2 ⟨rfl, b2⟩
  have h2 := h1.below b2
  have N2 := N1.trans (Nx.below own b2)
  have HB2 : Hid (w2.heap[H]? = some (.cells #[.int .i64 6, .int .i64 e1, .int .i64 e2, .int .i64 e3, .int .i64 e4, .int .i64 e5, .int .i64 e6, .int .i64 e7, .int .i64 e8, .int .i64 e9, .int .i64 a0, .int .i64 a1, .int .i64 a2, .int .i64 a3, .slice sA sl sc] 34 (0, 0))) := Lib.hid (by rw [b2.block H (lt_of_row HB1.out)]; exact HB1.out)
  have HO2 := HO1
  clear HB1 HO1 h1 N1 b2
  have q0 := (cellB HB2.out 10 _ rfl : w2.cell? ⟨H, 10, none⟩ = some (.int .i64 a0))
  have q1 := (cellB HB2.out 11 _ rfl : w2.cell? ⟨H, 11, none⟩ = some (.int .i64 a1))
  have q2 := (cellB HB2.out 12 _ rfl : w2.cell? ⟨H, 12, none⟩ = some (.int .i64 a2))
  have q3 := (cellB HB2.out 13 _ rfl : w2.cell? ⟨H, 13, none⟩ = some (.int .i64 a3))
  go_wp2_with fail
  clear q0 q1 q2 q3
  refine (RA.right_any a0 a1 a2 a3 w2 true ⟨fun _ => HA.out, fun _ => rfl⟩).mono ?_
  rintro r2 w3 ⟨rfl, b3⟩
  have h3 := h2.below b3
  have N3 := N2.trans (Nx.below own b3)
  have HB3 : Hid (w3.heap[H]? = some (.cells #[.int .i64 6, .int .i64 e1, .int .i64 e2, .int .i64 e3, .int .i64 e4, .int .i64 e5, .int .i64 e6, .int .i64 e7, .int .i64 e8, .int .i64 e9, .int .i64 a0, .int .i64 a1, .int .i64 a2, .int .i64 a3, .slice sA sl sc] 34 (0, 0))) := Lib.hid (by rw [b3.block H (lt_of_row HB2.out)]; exact HB2.out)
  have HO3 := HO2
  clear HB2 HO2 h2 N2 b3
  have d1 : (a0 == 1) = false := beq_false_of_ne hn1
  have q4 := (cellB HB3.out 10 _ rfl : w3.cell? ⟨H, 10, none⟩ = some (.int .i64 a0))
  have q5 := (cellB HB3.out 0 _ rfl : w3.cell? ⟨H, 0, none⟩ = some (.int .i64 6))
  have q6 := (cellB HB3.out 14 _ rfl : w3.cell? ⟨H, 14, none⟩ = some (.slice sA sl sc))
  go_wp2_with fail
  clear q4 q5 q6
  refine (c_obey h3 S HCS.out (HCL.out.keep (HBS.out.same N3)) HCW.out (HBS.out.next N3) (by omega)).mono ?_
  rintro r3 w4 ⟨o4, n4, ⟨hcm, rfl⟩ | ⟨W2, y2, s2, hcm, rfl, hv2, h4, S2⟩⟩
  · go_wp2_with fail
    go_ret
    refine Res.no ?_ rfl (N3.trans n4)
    by_cases h0 : a0 = 0
    · exact stp_mix HR.out HA.out hn1 (Or.inr ⟨rfl, h0⟩)
    · rw [stp_go HR.out HA.out hn1 (fun q => q.elim (fun q => q.1 rfl) (fun q => h0 q.2)), hap_6 rfl]
      dsimp only
      rw [hcm]
  · have N4 := N3.trans n4
    have HB4 : Hid (w4.heap[H]? = some (.cells #[.int .i64 6, .int .i64 e1, .int .i64 e2, .int .i64 e3, .int .i64 e4, .int .i64 e5, .int .i64 e6, .int .i64 e7, .int .i64 e8, .int .i64 e9, .int .i64 a0, .int .i64 a1, .int .i64 a2, .int .i64 a3, .slice sA sl sc] 34 (0, 0))) := Lib.hid (n4.blk HO3.out HB3.out)
    have HV2 := Lib.hid hv2
    have HCM := Lib.hid hcm
    clear hv2 hcm
    have q7 := (cellB HB4.out 0 _ rfl : w4.cell? ⟨H, 0, none⟩ = some (.int .i64 6))
    have q8 := (cellB HB4.out 1 _ rfl : w4.cell? ⟨H, 1, none⟩ = some (.int .i64 e1))
    have q9 := (cellB HB4.out 2 _ rfl : w4.cell? ⟨H, 2, none⟩ = some (.int .i64 e2))
    have q10 := (cellB HB4.out 3 _ rfl : w4.cell? ⟨H, 3, none⟩ = some (.int .i64 e3))
    have q11 := (cellB HB4.out 4 _ rfl : w4.cell? ⟨H, 4, none⟩ = some (.int .i64 e4))
    have q12 := (cellB HB4.out 5 _ rfl : w4.cell? ⟨H, 5, none⟩ = some (.int .i64 e5))
    have q13 := (cellB HB4.out 6 _ rfl : w4.cell? ⟨H, 6, none⟩ = some (.int .i64 e6))
    have q14 := (cellB HB4.out 7 _ rfl : w4.cell? ⟨H, 7, none⟩ = some (.int .i64 e7))
    have q15 := (cellB HB4.out 8 _ rfl : w4.cell? ⟨H, 8, none⟩ = some (.int .i64 e8))
    have q16 := (cellB HB4.out 9 _ rfl : w4.cell? ⟨H, 9, none⟩ = some (.int .i64 e9))
    have q17 := (cellB HB4.out 10 _ rfl : w4.cell? ⟨H, 10, none⟩ = some (.int .i64 a0))
    have q18 := (cellB HB4.out 11 _ rfl : w4.cell? ⟨H, 11, none⟩ = some (.int .i64 a1))
    have q19 := (cellB HB4.out 12 _ rfl : w4.cell? ⟨H, 12, none⟩ = some (.int .i64 a2))
    have q20 := (cellB HB4.out 13 _ rfl : w4.cell? ⟨H, 13, none⟩ = some (.int .i64 a3))
    have q21 := (cellB HB4.out 14 _ rfl : w4.cell? ⟨H, 14, none⟩ = some (.slice sA sl sc))
    go_wp2_with fail
    by_cases h0 : a0 = 0
    · subst h0
      have hc0 := c_call0 (a1 := a1) (a2 := a2) (a3 := a3) (e0 := 6) (e1 := e1) (e2 := e2) (e3 := e3) (e4 := e4) (e5 := e5) (e6 := e6) (e7 := e7) (e8 := e8) (e9 := e9) (sA := sA) (sl := sl) (sc := sc) h4 S2
      rw [HV2.out] at hc0
      refine hc0.mono ?_
      intro r5 w5 hR
      obtain ⟨b5, rfl, HR5⟩ := hR.out
      go_wp2
      go_ret
      obtain ⟨o5, n5, h5⟩ := HR5.out
      refine ⟨o5, N4.trans n5, ?_⟩
      rcases h5 with ⟨_, h5⟩ | ⟨_, _, _, q, _⟩
      · exact Or.inl ⟨stp_mix HR.out HA.out hn1 (Or.inr ⟨rfl, rfl⟩), h5⟩
      · cases q
    · have hc0 := c_call h4 S2 (sA := sA) (sc := sc) (e1 := e1) (e2 := e2) (e3 := e3) (e4 := e4) (e5 := e5) (e6 := e6) (e7 := e7) (e8 := e8) (e9 := e9) HCS.out rfl HA.out hn1 h0
      rw [HV2.out] at hc0
      have hst : stp W (⟨6, e1, e2, e3, e4, e5, e6, e7, e8, e9⟩, ⟨a0, a1, a2, a3⟩, cs) = clo W2 ⟨6, e1, e2, e3, e4, e5, e6, e7, e8, e9⟩ ⟨a0, a1, a2, a3⟩ cs := by
        rw [stp_go HR.out HA.out hn1 (fun q => q.elim (fun q => q.1 rfl) (fun q => h0 q.2)), hap_6 rfl]
        dsimp only
        rw [HCM.out]
      have HST := Lib.hid hst
      clear hst
      refine hc0.mono ?_
      intro r5 w5 hR
      obtain ⟨b5, rfl, HR5⟩ := hR.out
      go_wp2
      go_ret
      obtain ⟨o5, n5, h5⟩ := HR5.out
      refine ⟨o5, N4.trans n5, ?_⟩
      rw [HST.out]
      rcases h5 with h5 | ⟨W', y', s', q1, q2, q3, q4, q5⟩
      · exact Or.inl h5
      · exact Or.inr ⟨W', y', s', q1, q2, q3, q4, q5.up (by omega)⟩

set_option maxRecDepth 100000 in
set_option maxHeartbeats 1600000 in
theorem c_step5 {w : World} {own : Nat → Option Tag} {y : Lay} {s : Vs} {W : Wd} {N : Nat} (h : Cor w own y s) (S : Sim s W N) {e0 e1 e2 e3 e4 e5 e6 e7 e8 e9 a0 a1 a2 a3 : Int} {sA : Option Addr} {sl sc : Nat} (hr : right ⟨e0, e1, e2, e3, e4, e5, e6, e7, e8, e9⟩) (ha : okA ⟨a0, a1, a2, a3⟩) (hn1 : a0 ≠ 1) (hn0 : a0 ≠ 0) (h6 : e0 ≠ 6) : Calls Try.prog 9 #[ptr y.v, .agg #[.int .i64 e0, .int .i64 e1, .int .i64 e2, .int .i64 e3, .int .i64 e4, .int .i64 e5, .int .i64 e6, .int .i64 e7, .int .i64 e8, .int .i64 e9, .int .i64 a0, .int .i64 a1, .int .i64 a2, .int .i64 a3, .slice sA sl sc]] w (Res w own y.v N none) := by
  have HR := Lib.hid hr
  have HA := Lib.hid ha
  have N0 := Nx.refl w own
  have h0 := h
  clear h
  go_enter Try.func9, Try.ntmps9
  go_wp2_with fail
  have HB1 := heap_alloc_new w (.cells #[.int .i64 e0, .int .i64 e1, .int .i64 e2, .int .i64 e3, .int .i64 e4, .int .i64 e5, .int .i64 e6, .int .i64 e7, .int .i64 e8, .int .i64 e9, .int .i64 a0, .int .i64 a1, .int .i64 a2, .int .i64 a3, .slice sA sl sc] 34)
  have HO1 := h0.fresh (Nat.le_refl w.heap.size)
  have h1 := h0.alloc (.cells #[.int .i64 e0, .int .i64 e1, .int .i64 e2, .int .i64 e3, .int .i64 e4, .int .i64 e5, .int .i64 e6, .int .i64 e7, .int .i64 e8, .int .i64 e9, .int .i64 a0, .int .i64 a1, .int .i64 a2, .int .i64 a3, .slice sA sl sc] 34)
  have N1 := N0.alloc (.cells #[.int .i64 e0, .int .i64 e1, .int .i64 e2, .int .i64 e3, .int .i64 e4, .int .i64 e5, .int .i64 e6, .int .i64 e7, .int .i64 e8, .int .i64 e9, .int .i64 a0, .int .i64 a1, .int .i64 a2, .int .i64 a3, .slice sA sl sc] 34)
  obtain ⟨H, hH⟩ : ∃ H, w.heap.size = H := ⟨_, rfl⟩
  rw [hH] at HB1 HO1
  try rw [hH]
  have HH := Lib.hid hH
  clear hH
  generalize w.alloc (.cells #[.int .i64 e0, .int .i64 e1, .int .i64 e2, .int .i64 e3, .int .i64 e4, .int .i64 e5, .int .i64 e6, .int .i64 e7, .int .i64 e8, .int .i64 e9, .int .i64 a0, .int .i64 a1, .int .i64 a2, .int .i64 a3, .slice sA sl sc] 34) = w1 at HB1 h1 N1 ⊢
  replace HB1 := Lib.hid HB1
  replace HO1 := Lib.hid HO1
  clear h0 N0
  refine (right_any e0 e1 e2 e3 e4 e5 e6 e7 e8 e9 w1 true ⟨fun _ => HR.out, fun _ => rfl⟩).mono ?_
  rintro r1 w2 ⟨rfl, b2⟩
  have h2 := h1.below b2
  have N2 := N1.trans (Nx.below own b2)
  have HB2 : Hid (w2.heap[H]? = some (.cells #[.int .i64 e0, .int .i64 e1, .int .i64 e2, .int .i64 e3, .int .i64 e4, .int .i64 e5, .int .i64 e6, .int .i64 e7, .int .i64 e8, .int .i64 e9, .int .i64 a0, .int .i64 a1, .int .i64 a2, .int .i64 a3, .slice sA sl sc] 34 (0, 0))) := Lib.hid (by rw [b2.block H (lt_of_row HB1.out)]; exact HB1.out)
  have HO2 := HO1
  clear HB1 HO1 h1 N1 b2
  have q0 := (cellB HB2.out 10 _ rfl : w2.cell? ⟨H, 10, none⟩ = some (.int .i64 a0))
  have q1 := (cellB HB2.out 11 _ rfl : w2.cell? ⟨H, 11, none⟩ = some (.int .i64 a1))
  have q2 := (cellB HB2.out 12 _ rfl : w2.cell? ⟨H, 12, none⟩ = some (.int .i64 a2))
  have q3 := (cellB HB2.out 13 _ rfl : w2.cell? ⟨H, 13, none⟩ = some (.int .i64 a3))
  go_wp2_with fail
  clear q0 q1 q2 q3
  refine (RA.right_any a0 a1 a2 a3 w2 true ⟨fun _ => HA.out, fun _ => rfl⟩).mono ?_
  rintro r2 w3 ⟨rfl, b3⟩
  have h3 := h2.below b3
  have N3 := N2.trans (Nx.below own b3)
  have HB3 : Hid (w3.heap[H]? = some (.cells #[.int .i64 e0, .int .i64 e1, .int .i64 e2, .int .i64 e3, .int .i64 e4, .int .i64 e5, .int .i64 e6, .int .i64 e7, .int .i64 e8, .int .i64 e9, .int .i64 a0, .int .i64 a1, .int .i64 a2, .int .i64 a3, .slice sA sl sc] 34 (0, 0))) := Lib.hid (by rw [b3.block H (lt_of_row HB2.out)]; exact HB2.out)
  have HO3 := HO2
  clear HB2 HO2 h2 N2 b3
  have d1 : (a0 == 1) = false := beq_false_of_ne hn1
  have d0 : (a0 == 0) = false := beq_false_of_ne hn0
  have d6 : (e0 == 6) = false := beq_false_of_ne h6
  have q4 := (cellB HB3.out 10 _ rfl : w3.cell? ⟨H, 10, none⟩ = some (.int .i64 a0))
  have q5 := (cellB HB3.out 0 _ rfl : w3.cell? ⟨H, 0, none⟩ = some (.int .i64 e0))
  have q6 := (cellB HB3.out 14 _ rfl : w3.cell? ⟨H, 14, none⟩ = some (.slice sA sl sc))
  go_wp2
  go_ret
  exact Res.no rfl rfl N3

set_option maxRecDepth 100000 in
set_option maxHeartbeats 1600000 in
theorem c_step6 {w : World} {own : Nat → Option Tag} {y : Lay} {s : Vs} {W : Wd} {N : Nat} (h : Cor w own y s) (S : Sim s W N) {e0 e1 e2 e3 e4 e5 e6 e7 e8 e9 a1 a2 a3 : Int} {sA : Option Addr} {sl sc : Nat} {B : Nat} {cs : List Cmd} (hcs : cs.length = sl) (hcl : CL w B sA cs) (hcw : ∀ c ∈ cs, cwf c) (hB : Base own w B) (hN : N + 2 * sl + 2 < 1048570) (hr : right ⟨e0, e1, e2, e3, e4, e5, e6, e7, e8, e9⟩) (ha : okA ⟨0, a1, a2, a3⟩) (h6 : e0 ≠ 6) : Calls Try.prog 9 #[ptr y.v, .agg #[.int .i64 e0, .int .i64 e1, .int .i64 e2, .int .i64 e3, .int .i64 e4, .int .i64 e5, .int .i64 e6, .int .i64 e7, .int .i64 e8, .int .i64 e9, .int .i64 0, .int .i64 a1, .int .i64 a2, .int .i64 a3, .slice sA sl sc]] w (Res w own y.v (N + 2 * sl + 2) (stp W (⟨e0, e1, e2, e3, e4, e5, e6, e7, e8, e9⟩, ⟨0, a1, a2, a3⟩, cs))) := by
  have HR := Lib.hid hr
  have HA := Lib.hid ha
  have HCS := Lib.hid hcs
  have HCL := Lib.hid hcl
  have HCW := Lib.hid hcw
  have HBS := Lib.hid hB
  clear hcs hcl hcw hB
  have N0 := Nx.refl w own
  have h0 := h
  clear h
  go_enter Try.func9, Try.ntmps9
  go_wp2_with fail
  have HB1 := heap_alloc_new w (.cells #[.int .i64 e0, .int .i64 e1, .int .i64 e2, .int .i64 e3, .int .i64 e4, .int .i64 e5, .int .i64 e6, .int .i64 e7, .int .i64 e8, .int .i64 e9, .int .i64 0, .int .i64 a1, .int .i64 a2, .int .i64 a3, .slice sA sl sc] 34)
  have HO1 := h0.fresh (Nat.le_refl w.heap.size)
  have h1 := h0.alloc (.cells #[.int .i64 e0, .int .i64 e1, .int .i64 e2, .int .i64 e3, .int .i64 e4, .int .i64 e5, .int .i64 e6, .int .i64 e7, .int .i64 e8, .int .i64 e9, .int .i64 0, .int .i64 a1, .int .i64 a2, .int .i64 a3, .slice sA sl sc] 34)
  have N1 := N0.alloc (.cells #[.int .i64 e0, .int .i64 e1, .int .i64 e2, .int .i64 e3, .int .i64 e4, .int .i64 e5, .int .i64 e6, .int .i64 e7, .int .i64 e8, .int .i64 e9, .int .i64 0, .int .i64 a1, .int .i64 a2, .int .i64 a3, .slice sA sl sc] 34)
  obtain ⟨H, hH⟩ : ∃ H, w.heap.size = H := ⟨_, rfl⟩
  rw [hH] at HB1 HO1
  try rw [hH]
  have HH := Lib.hid hH
  clear hH
  generalize w.alloc (.cells #[.int .i64 e0, .int .i64 e1, .int .i64 e2, .int .i64 e3, .int .i64 e4, .int .i64 e5, .int .i64 e6, .int .i64 e7, .int .i64 e8, .int .i64 e9, .int .i64 0, .int .i64 a1, .int .i64 a2, .int .i64 a3, .slice sA sl sc] 34) = w1 at HB1 h1 N1 ⊢
  replace HB1 := Lib.hid HB1
  replace HO1 := Lib.hid HO1
  clear h0 N0
  refine (right_any e0 e1 e2 e3 e4 e5 e6 e7 e8 e9 w1 true ⟨fun _ => HR.out, fun _ => rfl⟩).mono ?_
  rintro r1 w2 ⟨rfl, b2⟩
  have h2 := h1.below b2
  have N2 := N1.trans (Nx.below own b2)
  have HB2 : Hid (w2.heap[H]? = some (.cells #[.int .i64 e0, .int .i64 e1, .int .i64 e2, .int .i64 e3, .int .i64 e4, .int .i64 e5, .int .i64 e6, .int .i64 e7, .int .i64 e8, .int .i64 e9, .int .i64 0, .int .i64 a1, .int .i64 a2, .int .i64 a3, .slice sA sl sc] 34 (0, 0))) := Lib.hid (by rw [b2.block H (lt_of_row HB1.out)]; exact HB1.out)
  have HO2 := HO1
  clear HB1 HO1 h1 N1 b2
  have q0 := (cellB HB2.out 10 _ rfl : w2.cell? ⟨H, 10, none⟩ = some (.int .i64 0))
  have q1 := (cellB HB2.out 11 _ rfl : w2.cell? ⟨H, 11, none⟩ = some (.int .i64 a1))
  have q2 := (cellB HB2.out 12 _ rfl : w2.cell? ⟨H, 12, none⟩ = some (.int .i64 a2))
  have q3 := (cellB HB2.out 13 _ rfl : w2.cell? ⟨H, 13, none⟩ = some (.int .i64 a3))
  go_wp2_with fail
  clear q0 q1 q2 q3
  refine (RA.right_any 0 a1 a2 a3 w2 true ⟨fun _ => HA.out, fun _ => rfl⟩).mono ?_
  rintro r2 w3 ⟨rfl, b3⟩
  have h3 := h2.below b3
  have N3 := N2.trans (Nx.below own b3)
  have HB3 : Hid (w3.heap[H]? = some (.cells #[.int .i64 e0, .int .i64 e1, .int .i64 e2, .int .i64 e3, .int .i64 e4, .int .i64 e5, .int .i64 e6, .int .i64 e7, .int .i64 e8, .int .i64 e9, .int .i64 0, .int .i64 a1, .int .i64 a2, .int .i64 a3, .slice sA sl sc] 34 (0, 0))) := Lib.hid (by rw [b3.block H (lt_of_row HB2.out)]; exact HB2.out)
  have HO3 := HO2
  clear HB2 HO2 h2 N2 b3
  have d6 : (e0 == 6) = false := beq_false_of_ne h6
  have q4 := (cellB HB3.out 0 _ rfl : w3.cell? ⟨H, 0, none⟩ = some (.int .i64 e0))
  have q5 := (cellB HB3.out 1 _ rfl : w3.cell? ⟨H, 1, none⟩ = some (.int .i64 e1))
  have q6 := (cellB HB3.out 2 _ rfl : w3.cell? ⟨H, 2, none⟩ = some (.int .i64 e2))
  have q7 := (cellB HB3.out 3 _ rfl : w3.cell? ⟨H, 3, none⟩ = some (.int .i64 e3))
  have q8 := (cellB HB3.out 4 _ rfl : w3.cell? ⟨H, 4, none⟩ = some (.int .i64 e4))
  have q9 := (cellB HB3.out 5 _ rfl : w3.cell? ⟨H, 5, none⟩ = some (.int .i64 e5))
  have q10 := (cellB HB3.out 6 _ rfl : w3.cell? ⟨H, 6, none⟩ = some (.int .i64 e6))
  have q11 := (cellB HB3.out 7 _ rfl : w3.cell? ⟨H, 7, none⟩ = some (.int .i64 e7))
  have q12 := (cellB HB3.out 8 _ rfl : w3.cell? ⟨H, 8, none⟩ = some (.int .i64 e8))
  have q13 := (cellB HB3.out 9 _ rfl : w3.cell? ⟨H, 9, none⟩ = some (.int .i64 e9))
  have q14 := (cellB HB3.out 10 _ rfl : w3.cell? ⟨H, 10, none⟩ = some (.int .i64 0))
  have q15 := (cellB HB3.out 11 _ rfl : w3.cell? ⟨H, 11, none⟩ = some (.int .i64 a1))
  have q16 := (cellB HB3.out 12 _ rfl : w3.cell? ⟨H, 12, none⟩ = some (.int .i64 a2))
  have q17 := (cellB HB3.out 13 _ rfl : w3.cell? ⟨H, 13, none⟩ = some (.int .i64 a3))
  have q18 := (cellB HB3.out 14 _ rfl : w3.cell? ⟨H, 14, none⟩ = some (.slice sA sl sc))
  go_wp2_with fail
  clear q4 q5 q6 q7 q8 q9 q10 q11 q12 q13 q14 q15 q16 q17 q18
  refine (c_happen h3 S (by omega) HR.out).mono ?_
  rintro r3 w4 ⟨o4, n4, ⟨hhp, rfl⟩ | ⟨W2, y2, s2, hhp, rfl, hv2, h4, S2⟩⟩
  · go_wp2_with fail
    go_ret
    refine Res.no ?_ rfl (N3.trans n4)
    rw [stp_go HR.out HA.out (by simp) (fun q => q.elim (fun q => q.2 rfl) (fun q => h6 q.1)), hhp]
  · have N4 := N3.trans n4
    have HB4 : Hid (w4.heap[H]? = some (.cells #[.int .i64 e0, .int .i64 e1, .int .i64 e2, .int .i64 e3, .int .i64 e4, .int .i64 e5, .int .i64 e6, .int .i64 e7, .int .i64 e8, .int .i64 e9, .int .i64 0, .int .i64 a1, .int .i64 a2, .int .i64 a3, .slice sA sl sc] 34 (0, 0))) := Lib.hid (n4.blk HO3.out HB3.out)
    have HV2 := Lib.hid hv2
    have HHP := Lib.hid hhp
    clear hv2 hhp
    have q19 := (cellB HB4.out 14 _ rfl : w4.cell? ⟨H, 14, none⟩ = some (.slice sA sl sc))
    go_wp2_with fail
    have hc0 := c_obey (cap := sc) h4 S2 HCS.out (HCL.out.keep (HBS.out.same N4)) HCW.out (HBS.out.next N4) (by omega)
    rw [HV2.out] at hc0
    have hst : stp W (⟨e0, e1, e2, e3, e4, e5, e6, e7, e8, e9⟩, ⟨0, a1, a2, a3⟩, cs) = cmds W2 cs := by
      rw [stp_go HR.out HA.out (by simp) (fun q => q.elim (fun q => q.2 rfl) (fun q => h6 q.1)), HHP.out]
      dsimp only
      cases cmds W2 cs with
      | none => rfl
      | some W3 => exact clo_not6 h6
    have HST := Lib.hid hst
    clear hst
    refine hc0.mono ?_
    intro r5 w5 hR
    obtain ⟨b5, rfl, HR5⟩ := hR.out
    go_wp2
    go_ret
    obtain ⟨o5, n5, h5⟩ := HR5.out
    refine ⟨o5, N4.trans n5, ?_⟩
    rw [HST.out]
    rcases h5 with h5 | ⟨W', y', s', q1, q2, q3, q4, q5⟩
    · exact Or.inl h5
    · exact Or.inr ⟨W', y', s', q1, q2, q3, q4, q5.up (by omega)⟩

set_option maxRecDepth 100000 in
set_option maxHeartbeats 1600000 in
theorem c_step {w : World} {own : Nat → Option Tag} {y : Lay} {s : Vs} {W : Wd} {N : Nat} (h : Cor w own y s) (S : Sim s W N) {e0 e1 e2 e3 e4 e5 e6 e7 e8 e9 a0 a1 a2 a3 : Int} {sA : Option Addr} {sl sc : Nat} {B : Nat} {cs : List Cmd} (hcs : cs.length = sl) (hcl : CL w B sA cs) (hcw : ∀ c ∈ cs, cwf c) (hB : Base own w B) (hN : N + 2 * sl + 2 < 1048570) : Calls Try.prog 9 #[ptr y.v, .agg #[.int .i64 e0, .int .i64 e1, .int .i64 e2, .int .i64 e3, .int .i64 e4, .int .i64 e5, .int .i64 e6, .int .i64 e7, .int .i64 e8, .int .i64 e9, .int .i64 a0, .int .i64 a1, .int .i64 a2, .int .i64 a3, .slice sA sl sc]] w (Res w own y.v (N + 2 * sl + 2) (stp W (⟨e0, e1, e2, e3, e4, e5, e6, e7, e8, e9⟩, ⟨a0, a1, a2, a3⟩, cs))) := by
  by_cases hr : right ⟨e0, e1, e2, e3, e4, e5, e6, e7, e8, e9⟩
  · by_cases ha : okA ⟨a0, a1, a2, a3⟩
    · by_cases h1 : a0 = 1
      · subst h1
        rw [stp_ref hr ha rfl]
        by_cases hsl : sl = 0
        · rw [if_pos (List.length_eq_zero_iff.1 (by omega))]; exact (c_step3y h S hr ha hsl).mono fun _ _ k => k.up (by omega)
        · rw [if_neg (fun q => hsl (by rw [← hcs, q]; rfl))]; exact (c_step3n h S hr ha hsl).mono fun _ _ k => k.up (by omega)
      · by_cases h6 : e0 = 6
        · subst h6; exact c_step4 h S hcs hcl hcw hB hN hr ha h1
        · by_cases h0 : a0 = 0
          · subst h0; exact c_step6 h S hcs hcl hcw hB hN hr ha h6
          · rw [stp_mix hr ha h1 (Or.inl ⟨h6, h0⟩)]; exact (c_step5 h S hr ha h1 h0 h6).mono fun _ _ k => k.up (by omega)
    · rw [stp_bad (Or.inr ha)]; exact (c_step2 h S hr ha).mono fun _ _ k => k.up (by omega)
  · rw [stp_bad (Or.inl hr)]; exact (c_step1 h S hr).mono fun _ _ k => k.up (by omega)

end Go.Proofs.Ytgpookphacdgoaa.W.U
