/- Package audit: what happens, and how a call is answered. -/
import Derived.Test.YtgpookphacdgoaaAuF
namespace Go.Proofs.Ytgpookphacdgoaa.W.U
open Go.RowKit Go.Maps Go.ChangeMaps Go.MapKept Go.Proofs.Ytgpookphacdgoaa.W

theorem Res.from {w w1 w' : World} {own : Nat → Option Tag} {v N : Nat} {r : Option Wd} {e : Ending} (h : Nx w own w1 own) (k : Res w1 own v N r e w') : Res w own v N r e w' := by
  obtain ⟨o, h1, h2⟩ := k
  exact ⟨o, h.trans h1, h2⟩
theorem Res.up {w w' : World} {own : Nat → Option Tag} {v N M : Nat} {r : Option Wd} {e : Ending} (h : N ≤ M) (k : Res w own v N r e w') : Res w own v M r e w' := by
  obtain ⟨o, h1, h2⟩ := k
  refine ⟨o, h1, h2.imp id ?_⟩
  rintro ⟨W', y', s', a1, a2, a3, a4, a5⟩
  exact ⟨W', y', s', a1, a2, a3, a4, a5.up h⟩
theorem Res.cast {w w' : World} {own : Nat → Option Tag} {v N : Nat} {r r' : Option Wd} {e : Ending} (h : r = r') (k : Res w own v N r e w') : Res w own v N r' e w' := h ▸ k
/-- Behind a call whose answer is the answer. -/
theorem Res.out {w w' : World} {own : Nat → Option Tag} {v N : Nat} {r : Option Wd} {e : Ending} (k : Res w own v N r e w') : ∃ b, e = .returned (.bool b) ∧ Hid (Res w own v N r (.returned (.bool b)) w') := by
  obtain ⟨o, h1, h2⟩ := k
  rcases h2 with ⟨hr, rfl⟩ | ⟨W', y', s', hr, rfl, h3⟩
  · exact ⟨false, rfl, o, h1, Or.inl ⟨hr, rfl⟩⟩
  · exact ⟨true, rfl, o, h1, Or.inr ⟨W', y', s', hr, rfl, h3⟩⟩


theorem Sim.mxN {s : Vs} {W : Wd} {N : Nat} (S : Sim s W N) {i : Int} (h : fnd W.L i = none) : s.mx.a i = none := (S.unused h).mx

set_option maxRecDepth 100000 in
set_option maxHeartbeats 1600000 in
theorem c_tendS7 {w : World} {own : Nat → Option Tag} {y : Lay} {s : Vs} {W : Wd} {N : Nat} (h : Cor w own y s) (S : Sim s W N) (hN : N < 1048576) {e1 e2 e3 e4 e5 e6 e7 e8 e9 : Int} (wfi : (KL e1).wf = true) : Calls Try.prog 30 #[ptr y.v, .agg #[.int .i64 7, .int .i64 e1, .int .i64 e2, .int .i64 e3, .int .i64 e4, .int .i64 e5, .int .i64 e6, .int .i64 e7, .int .i64 e8, .int .i64 e9]] w (Res w own y.v (N + 2) (hap W ⟨7, e1, e2, e3, e4, e5, e6, e7, e8, e9⟩)) := by
  have hh : hap W ⟨7, e1, e2, e3, e4, e5, e6, e7, e8, e9⟩ = (match fnd W.L e1 with | some b => if b.boots = true then some { W with L := up1 setBoots e1 W.L } else none | none => none) := by simp [hap]; rfl
  rw [hh]
  cases hf : fnd W.L e1 with
  | none => exact c_tend0 h S wfi (Sim.mxN S hf)
  | some b =>
    cases hb : b.boots with
    | false => simp only [hb]; exact c_tend7n h S wfi hf hb
    | true => simp only [hb, if_true]; exact (c_tend7y h S wfi hf hb).mono fun _ _ k => k.up (by omega)

set_option maxRecDepth 100000 in
set_option maxHeartbeats 1600000 in
theorem c_tendS9 {w : World} {own : Nat → Option Tag} {y : Lay} {s : Vs} {W : Wd} {N : Nat} (h : Cor w own y s) (S : Sim s W N) (hN : N < 1048576) {e1 e2 e3 e4 e5 e6 e7 e8 e9 : Int} (wfi : (KL e1).wf = true) : Calls Try.prog 30 #[ptr y.v, .agg #[.int .i64 9, .int .i64 e1, .int .i64 e2, .int .i64 e3, .int .i64 e4, .int .i64 e5, .int .i64 e6, .int .i64 e7, .int .i64 e8, .int .i64 e9]] w (Res w own y.v (N + 2) (hap W ⟨9, e1, e2, e3, e4, e5, e6, e7, e8, e9⟩)) := by
  have hh : hap W ⟨9, e1, e2, e3, e4, e5, e6, e7, e8, e9⟩ = (match fnd W.L e1 with | some b => if b.boots = false ∧ b.busy = true then some { W with L := up1 setFree e1 W.L } else none | none => none) := by simp [hap]; rfl
  rw [hh]
  cases hf : fnd W.L e1 with
  | none => exact c_tend0 h S wfi (Sim.mxN S hf)
  | some b =>
    cases hb : b.busy with
    | false => simp only [hb]; rw [if_neg (by simp)]; exact c_tend9a h S wfi hf hb
    | true =>
      cases hb2 : b.boots with
      | true => simp only [hb, hb2]; rw [if_neg (by simp)]; exact c_tend9b h S wfi hf hb hb2
      | false => simp only [hb, hb2]; rw [if_pos (by simp)]; exact (c_tend9y h S wfi hf hb hb2).mono fun _ _ k => k.up (by omega)

set_option maxRecDepth 100000 in
set_option maxHeartbeats 1600000 in
theorem c_tendS8 {w : World} {own : Nat → Option Tag} {y : Lay} {s : Vs} {W : Wd} {N : Nat} (h : Cor w own y s) (S : Sim s W N) (hN : N < 1048576) {e1 e2 e3 e4 e5 e6 e7 e8 e9 : Int} (wfi : (KL e1).wf = true) : Calls Try.prog 30 #[ptr y.v, .agg #[.int .i64 8, .int .i64 e1, .int .i64 e2, .int .i64 e3, .int .i64 e4, .int .i64 e5, .int .i64 e6, .int .i64 e7, .int .i64 e8, .int .i64 e9]] w (Res w own y.v (N + 2) (hap W ⟨8, e1, e2, e3, e4, e5, e6, e7, e8, e9⟩)) := by
  have hh : hap W ⟨8, e1, e2, e3, e4, e5, e6, e7, e8, e9⟩ = (match fnd W.L e1 with | some _ => some { W with L := drp W.L e1 } | none => none) := by simp [hap]; rfl
  rw [hh]
  cases hf : fnd W.L e1 with
  | none => exact c_tend0 h S wfi (Sim.mxN S hf)
  | some b => exact (c_tend8 h S hN wfi hf).mono fun _ _ k => k.up (by omega)

theorem c_setFS {w : World} {own : Nat → Option Tag} {y : Lay} {s : Vs} {W : Wd} {N : Nat} (h : Cor w own y s) (S : Sim s W N) (hN : N < 1048576) {n m : Int} (wf : (KL n).wf = true) (hm : 0 ≤ m ∧ m ≤ 2147483647) : Calls Try.prog 28 #[ptr y.v, .int .i64 n, .int .i64 m] w fun e w' => e = .returned (.tuple #[]) ∧ ∃ own' y' s', Nx w own w' own' ∧ y'.v = y.v ∧ Cor w' own' y' s' ∧ Sim s' { W with me := updZ W.me n (some m) } (N + 1) := by
  cases q : s.fu.a n with
  | none => exact c_setF0 h S hN wf hm q
  | some g => exact c_setF1 h S hN wf hm q

set_option maxRecDepth 100000 in
set_option maxHeartbeats 1600000 in
theorem c_hap7 {w : World} {own : Nat → Option Tag} {y : Lay} {s : Vs} {W : Wd} {N : Nat} (h : Cor w own y s) (S : Sim s W N) (hN : N < 1048576) {e1 e2 e3 e4 e5 e6 e7 e8 e9 : Int} (wfi : (KL e1).wf = true) : Calls Try.prog 15 #[ptr y.v, .agg #[.int .i64 7, .int .i64 e1, .int .i64 e2, .int .i64 e3, .int .i64 e4, .int .i64 e5, .int .i64 e6, .int .i64 e7, .int .i64 e8, .int .i64 e9]] w (Res w own y.v (N + 2) (hap W ⟨7, e1, e2, e3, e4, e5, e6, e7, e8, e9⟩)) := by
  have N0 := Nx.refl w own
  have h0 := h
  clear h
  go_enter Try.func15, Try.ntmps15
  go_wp2_with fail
  have HB1 := heap_alloc_new w (.cells #[.int .i64 7, .int .i64 e1, .int .i64 e2, .int .i64 e3, .int .i64 e4, .int .i64 e5, .int .i64 e6, .int .i64 e7, .int .i64 e8, .int .i64 e9] 26)
  have HO1 := h0.fresh (Nat.le_refl w.heap.size)
  have h1 := h0.alloc (.cells #[.int .i64 7, .int .i64 e1, .int .i64 e2, .int .i64 e3, .int .i64 e4, .int .i64 e5, .int .i64 e6, .int .i64 e7, .int .i64 e8, .int .i64 e9] 26)
  have N1 := N0.alloc (.cells #[.int .i64 7, .int .i64 e1, .int .i64 e2, .int .i64 e3, .int .i64 e4, .int .i64 e5, .int .i64 e6, .int .i64 e7, .int .i64 e8, .int .i64 e9] 26)
  obtain ⟨H, hH⟩ : ∃ H, w.heap.size = H := ⟨_, rfl⟩
  rw [hH] at HB1 HO1
  try rw [hH]
  have HH := Lib.hid hH
  clear hH
  generalize w.alloc (.cells #[.int .i64 7, .int .i64 e1, .int .i64 e2, .int .i64 e3, .int .i64 e4, .int .i64 e5, .int .i64 e6, .int .i64 e7, .int .i64 e8, .int .i64 e9] 26) = w1 at HB1 h1 N1 ⊢
  replace HB1 := Lib.hid HB1
  replace HO1 := Lib.hid HO1
  clear h0 N0
  refine (c_tendS7 h1 S hN wfi).mono ?_
  intro r1 w2 hR
  obtain ⟨b, rfl, HR⟩ := hR.out
  go_wp2
  go_ret
  exact Res.from N1 HR.out

set_option maxRecDepth 100000 in
set_option maxHeartbeats 1600000 in
theorem c_hap8 {w : World} {own : Nat → Option Tag} {y : Lay} {s : Vs} {W : Wd} {N : Nat} (h : Cor w own y s) (S : Sim s W N) (hN : N < 1048576) {e1 e2 e3 e4 e5 e6 e7 e8 e9 : Int} (wfi : (KL e1).wf = true) : Calls Try.prog 15 #[ptr y.v, .agg #[.int .i64 8, .int .i64 e1, .int .i64 e2, .int .i64 e3, .int .i64 e4, .int .i64 e5, .int .i64 e6, .int .i64 e7, .int .i64 e8, .int .i64 e9]] w (Res w own y.v (N + 2) (hap W ⟨8, e1, e2, e3, e4, e5, e6, e7, e8, e9⟩)) := by
  have N0 := Nx.refl w own
  have h0 := h
  clear h
  go_enter Try.func15, Try.ntmps15
  go_wp2_with fail
  have HB1 := heap_alloc_new w (.cells #[.int .i64 8, .int .i64 e1, .int .i64 e2, .int .i64 e3, .int .i64 e4, .int .i64 e5, .int .i64 e6, .int .i64 e7, .int .i64 e8, .int .i64 e9] 26)
  have HO1 := h0.fresh (Nat.le_refl w.heap.size)
  have h1 := h0.alloc (.cells #[.int .i64 8, .int .i64 e1, .int .i64 e2, .int .i64 e3, .int .i64 e4, .int .i64 e5, .int .i64 e6, .int .i64 e7, .int .i64 e8, .int .i64 e9] 26)
  have N1 := N0.alloc (.cells #[.int .i64 8, .int .i64 e1, .int .i64 e2, .int .i64 e3, .int .i64 e4, .int .i64 e5, .int .i64 e6, .int .i64 e7, .int .i64 e8, .int .i64 e9] 26)
  obtain ⟨H, hH⟩ : ∃ H, w.heap.size = H := ⟨_, rfl⟩
  rw [hH] at HB1 HO1
  try rw [hH]
  have HH := Lib.hid hH
  clear hH
  generalize w.alloc (.cells #[.int .i64 8, .int .i64 e1, .int .i64 e2, .int .i64 e3, .int .i64 e4, .int .i64 e5, .int .i64 e6, .int .i64 e7, .int .i64 e8, .int .i64 e9] 26) = w1 at HB1 h1 N1 ⊢
  replace HB1 := Lib.hid HB1
  replace HO1 := Lib.hid HO1
  clear h0 N0
  refine (c_tendS8 h1 S hN wfi).mono ?_
  intro r1 w2 hR
  obtain ⟨b, rfl, HR⟩ := hR.out
  go_wp2
  go_ret
  exact Res.from N1 HR.out

set_option maxRecDepth 100000 in
set_option maxHeartbeats 1600000 in
theorem c_hap9 {w : World} {own : Nat → Option Tag} {y : Lay} {s : Vs} {W : Wd} {N : Nat} (h : Cor w own y s) (S : Sim s W N) (hN : N < 1048576) {e1 e2 e3 e4 e5 e6 e7 e8 e9 : Int} (wfi : (KL e1).wf = true) : Calls Try.prog 15 #[ptr y.v, .agg #[.int .i64 9, .int .i64 e1, .int .i64 e2, .int .i64 e3, .int .i64 e4, .int .i64 e5, .int .i64 e6, .int .i64 e7, .int .i64 e8, .int .i64 e9]] w (Res w own y.v (N + 2) (hap W ⟨9, e1, e2, e3, e4, e5, e6, e7, e8, e9⟩)) := by
  have N0 := Nx.refl w own
  have h0 := h
  clear h
  go_enter Try.func15, Try.ntmps15
  go_wp2_with fail
  have HB1 := heap_alloc_new w (.cells #[.int .i64 9, .int .i64 e1, .int .i64 e2, .int .i64 e3, .int .i64 e4, .int .i64 e5, .int .i64 e6, .int .i64 e7, .int .i64 e8, .int .i64 e9] 26)
  have HO1 := h0.fresh (Nat.le_refl w.heap.size)
  have h1 := h0.alloc (.cells #[.int .i64 9, .int .i64 e1, .int .i64 e2, .int .i64 e3, .int .i64 e4, .int .i64 e5, .int .i64 e6, .int .i64 e7, .int .i64 e8, .int .i64 e9] 26)
  have N1 := N0.alloc (.cells #[.int .i64 9, .int .i64 e1, .int .i64 e2, .int .i64 e3, .int .i64 e4, .int .i64 e5, .int .i64 e6, .int .i64 e7, .int .i64 e8, .int .i64 e9] 26)
  obtain ⟨H, hH⟩ : ∃ H, w.heap.size = H := ⟨_, rfl⟩
  rw [hH] at HB1 HO1
  try rw [hH]
  have HH := Lib.hid hH
  clear hH
  generalize w.alloc (.cells #[.int .i64 9, .int .i64 e1, .int .i64 e2, .int .i64 e3, .int .i64 e4, .int .i64 e5, .int .i64 e6, .int .i64 e7, .int .i64 e8, .int .i64 e9] 26) = w1 at HB1 h1 N1 ⊢
  replace HB1 := Lib.hid HB1
  replace HO1 := Lib.hid HO1
  clear h0 N0
  refine (c_tendS9 h1 S hN wfi).mono ?_
  intro r1 w2 hR
  obtain ⟨b, rfl, HR⟩ := hR.out
  go_wp2
  go_ret
  exact Res.from N1 HR.out

set_option maxRecDepth 100000 in
set_option maxHeartbeats 1600000 in
theorem c_hap2 {w : World} {own : Nat → Option Tag} {y : Lay} {s : Vs} {W : Wd} {N : Nat} (h : Cor w own y s) (S : Sim s W N) (hN : N < 1048576) {e1 e2 e3 e4 e5 e6 e7 e8 e9 : Int} (wfi : (KL e1).wf = true) (hm : 0 ≤ e6 ∧ e6 ≤ 2147483647) : Calls Try.prog 15 #[ptr y.v, .agg #[.int .i64 2, .int .i64 e1, .int .i64 e2, .int .i64 e3, .int .i64 e4, .int .i64 e5, .int .i64 e6, .int .i64 e7, .int .i64 e8, .int .i64 e9]] w (Res w own y.v (N + 2) (hap W ⟨2, e1, e2, e3, e4, e5, e6, e7, e8, e9⟩)) := by
  have N0 := Nx.refl w own
  have h0 := h
  clear h
  go_enter Try.func15, Try.ntmps15
  go_wp2_with fail
  have HB1 := heap_alloc_new w (.cells #[.int .i64 2, .int .i64 e1, .int .i64 e2, .int .i64 e3, .int .i64 e4, .int .i64 e5, .int .i64 e6, .int .i64 e7, .int .i64 e8, .int .i64 e9] 26)
  have HO1 := h0.fresh (Nat.le_refl w.heap.size)
  have h1 := h0.alloc (.cells #[.int .i64 2, .int .i64 e1, .int .i64 e2, .int .i64 e3, .int .i64 e4, .int .i64 e5, .int .i64 e6, .int .i64 e7, .int .i64 e8, .int .i64 e9] 26)
  have N1 := N0.alloc (.cells #[.int .i64 2, .int .i64 e1, .int .i64 e2, .int .i64 e3, .int .i64 e4, .int .i64 e5, .int .i64 e6, .int .i64 e7, .int .i64 e8, .int .i64 e9] 26)
  obtain ⟨H, hH⟩ : ∃ H, w.heap.size = H := ⟨_, rfl⟩
  rw [hH] at HB1 HO1
  try rw [hH]
  have HH := Lib.hid hH
  clear hH
  generalize w.alloc (.cells #[.int .i64 2, .int .i64 e1, .int .i64 e2, .int .i64 e3, .int .i64 e4, .int .i64 e5, .int .i64 e6, .int .i64 e7, .int .i64 e8, .int .i64 e9] 26) = w1 at HB1 h1 N1 ⊢
  replace HB1 := Lib.hid HB1
  replace HO1 := Lib.hid HO1
  clear h0 N0
  refine (c_setFS h1 S hN wfi hm).mono ?_
  rintro r1 w2 ⟨rfl, o2, y2, s2, n2, hv2, h2, S2⟩
  go_wp2
  go_ret
  exact Res.yes (by simp [hap]) rfl hv2 (N1.trans n2) h2 (S2.up (by omega))

set_option maxRecDepth 100000 in
set_option maxHeartbeats 1600000 in
theorem c_hap5 {w : World} {own : Nat → Option Tag} {y : Lay} {s : Vs} {W : Wd} {N : Nat} (h : Cor w own y s) (S : Sim s W N) (hN : N < 1048570) {e1 e2 e3 e4 e5 e6 e7 e8 e9 : Int} (wfi : (KL e1).wf = true) : Calls Try.prog 15 #[ptr y.v, .agg #[.int .i64 5, .int .i64 e1, .int .i64 e2, .int .i64 e3, .int .i64 e4, .int .i64 e5, .int .i64 e6, .int .i64 e7, .int .i64 e8, .int .i64 e9]] w (Res w own y.v (N + 2) (hap W ⟨5, e1, e2, e3, e4, e5, e6, e7, e8, e9⟩)) := by
  have N0 := Nx.refl w own
  have h0 := h
  clear h
  go_enter Try.func15, Try.ntmps15
  go_wp2_with fail
  have HB1 := heap_alloc_new w (.cells #[.int .i64 5, .int .i64 e1, .int .i64 e2, .int .i64 e3, .int .i64 e4, .int .i64 e5, .int .i64 e6, .int .i64 e7, .int .i64 e8, .int .i64 e9] 26)
  have HO1 := h0.fresh (Nat.le_refl w.heap.size)
  have h1 := h0.alloc (.cells #[.int .i64 5, .int .i64 e1, .int .i64 e2, .int .i64 e3, .int .i64 e4, .int .i64 e5, .int .i64 e6, .int .i64 e7, .int .i64 e8, .int .i64 e9] 26)
  have N1 := N0.alloc (.cells #[.int .i64 5, .int .i64 e1, .int .i64 e2, .int .i64 e3, .int .i64 e4, .int .i64 e5, .int .i64 e6, .int .i64 e7, .int .i64 e8, .int .i64 e9] 26)
  obtain ⟨H, hH⟩ : ∃ H, w.heap.size = H := ⟨_, rfl⟩
  rw [hH] at HB1 HO1
  try rw [hH]
  have HH := Lib.hid hH
  clear hH
  generalize w.alloc (.cells #[.int .i64 5, .int .i64 e1, .int .i64 e2, .int .i64 e3, .int .i64 e4, .int .i64 e5, .int .i64 e6, .int .i64 e7, .int .i64 e8, .int .i64 e9] 26) = w1 at HB1 h1 N1 ⊢
  replace HB1 := Lib.hid HB1
  replace HO1 := Lib.hid HO1
  clear h0 N0
  refine (c_fail h1 S (by omega) wfi).mono ?_
  rintro r1 w2 ⟨rfl, o2, y2, s2, n2, hv2, h2, S2⟩
  go_wp2
  go_ret
  exact Res.yes (by simp [hap]) rfl hv2 (N1.trans n2) h2 (S2.up (by omega))

set_option maxRecDepth 100000 in
set_option maxHeartbeats 1600000 in
theorem c_hap3 {w : World} {own : Nat → Option Tag} {y : Lay} {s : Vs} {W : Wd} {N : Nat} (h : Cor w own y s) (S : Sim s W N) (hN : N < 1048570) {e1 e2 e3 e4 e5 e6 e7 e8 e9 : Int} (wfi : (KL e1).wf = true) (hr : right ⟨3, e1, e2, e3, e4, e5, e6, e7, e8, e9⟩) : Calls Try.prog 15 #[ptr y.v, .agg #[.int .i64 3, .int .i64 e1, .int .i64 e2, .int .i64 e3, .int .i64 e4, .int .i64 e5, .int .i64 e6, .int .i64 e7, .int .i64 e8, .int .i64 e9]] w (Res w own y.v (N + 2) (hap W ⟨3, e1, e2, e3, e4, e5, e6, e7, e8, e9⟩)) := by
  have N0 := Nx.refl w own
  have h0 := h
  clear h
  go_enter Try.func15, Try.ntmps15
  go_wp2_with fail
  have HB1 := heap_alloc_new w (.cells #[.int .i64 3, .int .i64 e1, .int .i64 e2, .int .i64 e3, .int .i64 e4, .int .i64 e5, .int .i64 e6, .int .i64 e7, .int .i64 e8, .int .i64 e9] 26)
  have HO1 := h0.fresh (Nat.le_refl w.heap.size)
  have h1 := h0.alloc (.cells #[.int .i64 3, .int .i64 e1, .int .i64 e2, .int .i64 e3, .int .i64 e4, .int .i64 e5, .int .i64 e6, .int .i64 e7, .int .i64 e8, .int .i64 e9] 26)
  have N1 := N0.alloc (.cells #[.int .i64 3, .int .i64 e1, .int .i64 e2, .int .i64 e3, .int .i64 e4, .int .i64 e5, .int .i64 e6, .int .i64 e7, .int .i64 e8, .int .i64 e9] 26)
  obtain ⟨H, hH⟩ : ∃ H, w.heap.size = H := ⟨_, rfl⟩
  rw [hH] at HB1 HO1
  try rw [hH]
  have HH := Lib.hid hH
  clear hH
  generalize w.alloc (.cells #[.int .i64 3, .int .i64 e1, .int .i64 e2, .int .i64 e3, .int .i64 e4, .int .i64 e5, .int .i64 e6, .int .i64 e7, .int .i64 e8, .int .i64 e9] 26) = w1 at HB1 h1 N1 ⊢
  replace HB1 := Lib.hid HB1
  replace HO1 := Lib.hid HO1
  clear h0 N0
  have z3 := cellB HB1.out 3 _ rfl
  have z1 := cellB HB1.out 1 _ rfl
  go_region_with (first | (go_at_call 27; refine (c_hostS (by first | exact h1 | exact h1.drew) S (by omega) wfi).mono ?_; rintro r w2 ⟨o2, y2, s2, p, rfl, h2, n2, S2, hp2, hv2, _, _, _, _⟩; have z4 := cellB (n2.blk HO1.out HB1.out) 3 _ rfl; have hrow := ((h2.ob (.hb e1)) _ hp2).2; have c0 := h2.h0 hp2; have fz := frozen_of_row w2 (y2.hb e1) 0 _ _ hrow; have z5 := h2.drew.h0 hp2; have fz2 := frozen_of_row w2.drew (y2.hb e1) 0 _ _ hrow))
  all_goals
    have NN : Nx w own w2 o2 := by first | exact N1.trans n2 | exact N1.drew.trans n2
    have g2 := grown_set w2 0 (y2.hb e1) 0 (.int .i64 e3)
    have m2 := set_rowL hrow 0 (.int .i64 e3)
    obtain ⟨h3, n3⟩ := Cor.hb h2 hp2 (z := e3) (u := p.used) (show _ = _ from m2) g2
    have N3 := NN.trans n3
    clear z4 c0 fz z5 fz2 n2 n3 g2 m2 NN h2 hrow h1 N1 HB1 z3 z1
    generalize w2.setCell ⟨y2.hb e1, 0, none⟩ (.int .i64 e3) = w3 at h3 N3 ⊢
    go_wp2
    go_ret
    exact Res.yes (by simp [hap]) rfl hv2 N3 h3 ((S2.size hr rfl hp2).up (by omega))

set_option maxRecDepth 100000 in
set_option maxHeartbeats 1600000 in
theorem c_hapX {w : World} {own : Nat → Option Tag} {y : Lay} {s : Vs} {W : Wd} {N : Nat} (h : Cor w own y s) (S : Sim s W N) {e0 e1 e2 e3 e4 e5 e6 e7 e8 e9 : Int} (k3 : e0 ≠ 3) (k2 : e0 ≠ 2) (k5 : e0 ≠ 5) (k7 : e0 ≠ 7) (k8 : e0 ≠ 8) (k9 : e0 ≠ 9) : Calls Try.prog 15 #[ptr y.v, .agg #[.int .i64 e0, .int .i64 e1, .int .i64 e2, .int .i64 e3, .int .i64 e4, .int .i64 e5, .int .i64 e6, .int .i64 e7, .int .i64 e8, .int .i64 e9]] w (Res w own y.v (N + 2) (hap W ⟨e0, e1, e2, e3, e4, e5, e6, e7, e8, e9⟩)) := by
  have N0 := Nx.refl w own
  have h0 := h
  clear h
  have d3 : (e0 == 3) = false := beq_false_of_ne k3
  have d2 : (e0 == 2) = false := beq_false_of_ne k2
  have d5 : (e0 == 5) = false := beq_false_of_ne k5
  have d7 : (e0 == 7) = false := beq_false_of_ne k7
  have d8 : (e0 == 8) = false := beq_false_of_ne k8
  have d9 : (e0 == 9) = false := beq_false_of_ne k9
  go_enter Try.func15, Try.ntmps15
  go_wp2
  go_ret
  exact Res.yes (by simp [hap, k3, k2, k5, k7, k8, k9]) rfl rfl (N0.alloc _) (h0.alloc _) (S.up (by omega))

end Go.Proofs.Ytgpookphacdgoaa.W.U
