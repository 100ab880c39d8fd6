/- Package audit: how a call is answered. -/
import Derived.Test.YtgpookphacdgoaaAuG
namespace Go.Proofs.Ytgpookphacdgoaa.W.U
open Go.RowKit Go.Maps Go.ChangeMaps Go.MapKept Go.Proofs.Ytgpookphacdgoaa.W


set_option maxRecDepth 100000 in
set_option maxHeartbeats 1600000 in
theorem c_happen {w : World} {own : Nat → Option Tag} {y : Lay} {s : Vs} {W : Wd} {N : Nat} (h : Cor w own y s) (S : Sim s W N) (hN : N < 1048570) {e0 e1 e2 e3 e4 e5 e6 e7 e8 e9 : Int} (hr : right ⟨e0, e1, e2, e3, e4, e5, e6, e7, e8, e9⟩) : Calls Try.prog 15 #[ptr y.v, .agg #[.int .i64 e0, .int .i64 e1, .int .i64 e2, .int .i64 e3, .int .i64 e4, .int .i64 e5, .int .i64 e6, .int .i64 e7, .int .i64 e8, .int .i64 e9]] w (Res w own y.v (N + 2) (hap W ⟨e0, e1, e2, e3, e4, e5, e6, e7, e8, e9⟩)) := by
  obtain ⟨b1, b2, b3, _, _⟩ := right_bd hr
  dsimp only at b1 b2 b3
  have wfi : (KL e1).wf = true := wfK (by omega) (by omega)
  by_cases k3 : e0 = 3
  · subst k3; exact c_hap3 h S hN wfi hr
  by_cases k2 : e0 = 2
  · subst k2; exact c_hap2 h S (by omega) wfi b3
  by_cases k5 : e0 = 5
  · subst k5; exact c_hap5 h S hN wfi
  by_cases k7 : e0 = 7
  · subst k7; exact c_hap7 h S (by omega) wfi
  by_cases k8 : e0 = 8
  · subst k8; exact c_hap8 h S (by omega) wfi
  by_cases k9 : e0 = 9
  · subst k9; exact c_hap9 h S (by omega) wfi
  exact c_hapX h S k3 k2 k5 k7 k8 k9

/-- A call that may not run in the sandbox that is answered. -/
def Bad (W : Wd) (i f : Int) : Prop := fnd W.L i = none ∨ ∃ b, fnd W.L i = some b ∧ (b.busy = true ∨ b.fn ≠ f)

set_option maxRecDepth 100000 in
set_option maxHeartbeats 1600000 in
theorem c_beginF {w : World} {own : Nat → Option Tag} {y : Lay} {s : Vs} {W : Wd} {N : Nat} (h : Cor w own y s) (S : Sim s W N) {e0 e1 e2 e3 e4 e5 e6 e7 e8 e9 a0 a1 a2 a3 : Int} {sA : Option Addr} {sl sc : Nat} (wfi : (KL a1).wf = true) (hbad : Bad W a1 e1) : Calls Try.prog 26 #[ptr y.v, .agg #[.int .i64 e0, .int .i64 e1, .int .i64 e2, .int .i64 e3, .int .i64 e4, .int .i64 e5, .int .i64 e6, .int .i64 e7, .int .i64 e8, .int .i64 e9, .int .i64 a0, .int .i64 a1, .int .i64 a2, .int .i64 a3, .slice sA sl sc]] w fun e w' => e = .returned (.tuple #[.pointer none, .bool false]) ∧ To w own y s w' := by
  rcases hbad with hf | ⟨b, hf, hb⟩
  · exact c_begin0 h S wfi (S.mxN hf)
  · cases hu : b.busy with
    | true => exact c_begin1 h S wfi hf hu
    | false => exact c_begin2 h S wfi hf hu (hb.resolve_left (by rw [hu]; simp))

theorem clo_bad {W : Wd} {e : Ev} {a : An} {cs : List Cmd} (he : e.k = 6) (ha : a.k ≠ 4) (hb : Bad W a.b e.n) : clo W e a cs = none := by
  unfold clo
  rw [if_neg (by simp [he]), if_neg ha]
  rcases hb with h | ⟨b, h, k⟩
  · rw [h]
  · rw [h]; dsimp only; rw [if_neg]
    rintro ⟨q1, q2, _⟩
    rcases k with k | k
    · rw [q1] at k; cases k
    · exact k q2
theorem clo_not {W : Wd} {e : Ev} {a : An} {cs : List Cmd} {b : Bv} (he : e.k = 6) (ha : a.k ≠ 4) (hf : fnd W.L a.b = some b) (hn : ¬ ((a.k = 2 → b.boots = false ∧ cs = []) ∧ (a.k = 3 → b.boots = true ∧ a.b = W.nx - 1))) : clo W e a cs = none := by
  unfold clo
  rw [if_neg (by simp [he]), if_neg ha, hf]
  dsimp only; rw [if_neg]
  rintro ⟨_, _, q⟩
  exact hn q
theorem clo_yes {W : Wd} {e : Ev} {a : An} {cs : List Cmd} {b : Bv} (he : e.k = 6) (ha : a.k ≠ 4) (hf : fnd W.L a.b = some b) (h1 : b.busy = false) (h2 : b.fn = e.n) (hn : (a.k = 2 → b.boots = false ∧ cs = []) ∧ (a.k = 3 → b.boots = true ∧ a.b = W.nx - 1)) : clo W e a cs = some { W with L := up1 setBusy a.b W.L } := by
  unfold clo
  rw [if_neg (by simp [he]), if_neg ha, hf]
  dsimp only; rw [if_pos ⟨h1, h2, hn⟩]

set_option maxRecDepth 100000 in
set_option maxHeartbeats 1600000 in
theorem c_call2b {w : World} {own : Nat → Option Tag} {y : Lay} {s : Vs} {W : Wd} {N : Nat} (h : Cor w own y s) (S : Sim s W N) {e0 e1 e2 e3 e4 e5 e6 e7 e8 e9 a1 a2 a3 : Int} {sA : Option Addr} {sl sc : Nat} (wfi : (KL a1).wf = true) (hbad : Bad W a1 e1) : Calls Try.prog 14 #[ptr y.v, .agg #[.int .i64 e0, .int .i64 e1, .int .i64 e2, .int .i64 e3, .int .i64 e4, .int .i64 e5, .int .i64 e6, .int .i64 e7, .int .i64 e8, .int .i64 e9, .int .i64 2, .int .i64 a1, .int .i64 a2, .int .i64 a3, .slice sA sl sc]] w (Res w own y.v N none) := by
  have N0 := Nx.refl w own
  have h0 := h
  clear h
  go_enter Try.func14, Try.ntmps14
  go_wp2_with fail
  have HB1 := heap_alloc_new w (.cells #[.int .i64 e0, .int .i64 e1, .int .i64 e2, .int .i64 e3, .int .i64 e4, .int .i64 e5, .int .i64 e6, .int .i64 e7, .int .i64 e8, .int .i64 e9, .int .i64 2, .int .i64 a1, .int .i64 a2, .int .i64 a3, .slice sA sl sc] 34)
  have HO1 := h0.fresh (Nat.le_refl w.heap.size)
  have h1 := h0.alloc (.cells #[.int .i64 e0, .int .i64 e1, .int .i64 e2, .int .i64 e3, .int .i64 e4, .int .i64 e5, .int .i64 e6, .int .i64 e7, .int .i64 e8, .int .i64 e9, .int .i64 2, .int .i64 a1, .int .i64 a2, .int .i64 a3, .slice sA sl sc] 34)
  have N1 := N0.alloc (.cells #[.int .i64 e0, .int .i64 e1, .int .i64 e2, .int .i64 e3, .int .i64 e4, .int .i64 e5, .int .i64 e6, .int .i64 e7, .int .i64 e8, .int .i64 e9, .int .i64 2, .int .i64 a1, .int .i64 a2, .int .i64 a3, .slice sA sl sc] 34)
  obtain ⟨H, hH⟩ : ∃ H, w.heap.size = H := ⟨_, rfl⟩
  rw [hH] at HB1 HO1
  try rw [hH]
  have HH := Lib.hid hH
  clear hH
  generalize w.alloc (.cells #[.int .i64 e0, .int .i64 e1, .int .i64 e2, .int .i64 e3, .int .i64 e4, .int .i64 e5, .int .i64 e6, .int .i64 e7, .int .i64 e8, .int .i64 e9, .int .i64 2, .int .i64 a1, .int .i64 a2, .int .i64 a3, .slice sA sl sc] 34) = w1 at HB1 h1 N1 ⊢
  replace HB1 := Lib.hid HB1
  replace HO1 := Lib.hid HO1
  clear h0 N0
  refine (c_beginF h1 S wfi hbad).mono ?_
  rintro r1 w2 ⟨rfl, o2, h2, n2⟩
  have N2 := N1.trans n2
  have HB2 : Hid (w2.heap[H]? = some (.cells #[.int .i64 e0, .int .i64 e1, .int .i64 e2, .int .i64 e3, .int .i64 e4, .int .i64 e5, .int .i64 e6, .int .i64 e7, .int .i64 e8, .int .i64 e9, .int .i64 2, .int .i64 a1, .int .i64 a2, .int .i64 a3, .slice sA sl sc] 34 (0, 0))) := Lib.hid (n2.blk HO1.out HB1.out)
  have HO2 := Lib.hid (n2.none HO1.out (lt_of_row HB1.out))
  clear HB1 HO1
  clear N1 n2 h1
  go_wp2
  go_ret
  exact Res.no rfl rfl N2

set_option maxRecDepth 100000 in
set_option maxHeartbeats 1600000 in
theorem c_call3b {w : World} {own : Nat → Option Tag} {y : Lay} {s : Vs} {W : Wd} {N : Nat} (h : Cor w own y s) (S : Sim s W N) {e0 e1 e2 e3 e4 e5 e6 e7 e8 e9 a1 a2 a3 : Int} {sA : Option Addr} {sl sc : Nat} (wfi : (KL a1).wf = true) (hbad : Bad W a1 e1) : Calls Try.prog 14 #[ptr y.v, .agg #[.int .i64 e0, .int .i64 e1, .int .i64 e2, .int .i64 e3, .int .i64 e4, .int .i64 e5, .int .i64 e6, .int .i64 e7, .int .i64 e8, .int .i64 e9, .int .i64 3, .int .i64 a1, .int .i64 a2, .int .i64 a3, .slice sA sl sc]] w (Res w own y.v N none) := by
  have N0 := Nx.refl w own
  have h0 := h
  clear h
  go_enter Try.func14, Try.ntmps14
  go_wp2_with fail
  have HB1 := heap_alloc_new w (.cells #[.int .i64 e0, .int .i64 e1, .int .i64 e2, .int .i64 e3, .int .i64 e4, .int .i64 e5, .int .i64 e6, .int .i64 e7, .int .i64 e8, .int .i64 e9, .int .i64 3, .int .i64 a1, .int .i64 a2, .int .i64 a3, .slice sA sl sc] 34)
  have HO1 := h0.fresh (Nat.le_refl w.heap.size)
  have h1 := h0.alloc (.cells #[.int .i64 e0, .int .i64 e1, .int .i64 e2, .int .i64 e3, .int .i64 e4, .int .i64 e5, .int .i64 e6, .int .i64 e7, .int .i64 e8, .int .i64 e9, .int .i64 3, .int .i64 a1, .int .i64 a2, .int .i64 a3, .slice sA sl sc] 34)
  have N1 := N0.alloc (.cells #[.int .i64 e0, .int .i64 e1, .int .i64 e2, .int .i64 e3, .int .i64 e4, .int .i64 e5, .int .i64 e6, .int .i64 e7, .int .i64 e8, .int .i64 e9, .int .i64 3, .int .i64 a1, .int .i64 a2, .int .i64 a3, .slice sA sl sc] 34)
  obtain ⟨H, hH⟩ : ∃ H, w.heap.size = H := ⟨_, rfl⟩
  rw [hH] at HB1 HO1
  try rw [hH]
  have HH := Lib.hid hH
  clear hH
  generalize w.alloc (.cells #[.int .i64 e0, .int .i64 e1, .int .i64 e2, .int .i64 e3, .int .i64 e4, .int .i64 e5, .int .i64 e6, .int .i64 e7, .int .i64 e8, .int .i64 e9, .int .i64 3, .int .i64 a1, .int .i64 a2, .int .i64 a3, .slice sA sl sc] 34) = w1 at HB1 h1 N1 ⊢
  replace HB1 := Lib.hid HB1
  replace HO1 := Lib.hid HO1
  clear h0 N0
  refine (c_beginF h1 S wfi hbad).mono ?_
  rintro r1 w2 ⟨rfl, o2, h2, n2⟩
  have N2 := N1.trans n2
  have HB2 : Hid (w2.heap[H]? = some (.cells #[.int .i64 e0, .int .i64 e1, .int .i64 e2, .int .i64 e3, .int .i64 e4, .int .i64 e5, .int .i64 e6, .int .i64 e7, .int .i64 e8, .int .i64 e9, .int .i64 3, .int .i64 a1, .int .i64 a2, .int .i64 a3, .slice sA sl sc] 34 (0, 0))) := Lib.hid (n2.blk HO1.out HB1.out)
  have HO2 := Lib.hid (n2.none HO1.out (lt_of_row HB1.out))
  clear HB1 HO1
  clear N1 n2 h1
  go_wp2_with fail
  go_quiet (fail)
  have h3 := h2.drewN nq
  have N3 := N2.drewN nq
  have HB3 : Hid ((w2.drewN nq).heap[H]? = some (.cells #[.int .i64 e0, .int .i64 e1, .int .i64 e2, .int .i64 e3, .int .i64 e4, .int .i64 e5, .int .i64 e6, .int .i64 e7, .int .i64 e8, .int .i64 e9, .int .i64 3, .int .i64 a1, .int .i64 a2, .int .i64 a3, .slice sA sl sc] 34 (0, 0))) := HB2
  have HO3 := HO2
  clear HB2 HO2
  generalize w2.drewN nq = w3 at h3 N3 HB3 ⊢
  clear h2 N2
  go_wp2
  go_ret
  exact Res.no rfl rfl N3

set_option maxRecDepth 100000 in
set_option maxHeartbeats 1600000 in
theorem c_call2n {w : World} {own : Nat → Option Tag} {y : Lay} {s : Vs} {W : Wd} {N : Nat} (h : Cor w own y s) (S : Sim s W N) {e0 e1 e2 e3 e4 e5 e6 e7 e8 e9 a1 a2 a3 : Int} {sA : Option Addr} {sl sc : Nat} (wfi : (KL a1).wf = true) {b : Bv} (hf : fnd W.L a1 = some b) (hbu : b.busy = false) (hbf : b.fn = e1) (hbo : b.boots = true) : Calls Try.prog 14 #[ptr y.v, .agg #[.int .i64 e0, .int .i64 e1, .int .i64 e2, .int .i64 e3, .int .i64 e4, .int .i64 e5, .int .i64 e6, .int .i64 e7, .int .i64 e8, .int .i64 e9, .int .i64 2, .int .i64 a1, .int .i64 a2, .int .i64 a3, .slice sA sl sc]] w (Res w own y.v N none) := by
  have N0 := Nx.refl w own
  have h0 := h
  clear h
  go_enter Try.func14, Try.ntmps14
  go_wp2_with fail
  have HB1 := heap_alloc_new w (.cells #[.int .i64 e0, .int .i64 e1, .int .i64 e2, .int .i64 e3, .int .i64 e4, .int .i64 e5, .int .i64 e6, .int .i64 e7, .int .i64 e8, .int .i64 e9, .int .i64 2, .int .i64 a1, .int .i64 a2, .int .i64 a3, .slice sA sl sc] 34)
  have HO1 := h0.fresh (Nat.le_refl w.heap.size)
  have h1 := h0.alloc (.cells #[.int .i64 e0, .int .i64 e1, .int .i64 e2, .int .i64 e3, .int .i64 e4, .int .i64 e5, .int .i64 e6, .int .i64 e7, .int .i64 e8, .int .i64 e9, .int .i64 2, .int .i64 a1, .int .i64 a2, .int .i64 a3, .slice sA sl sc] 34)
  have N1 := N0.alloc (.cells #[.int .i64 e0, .int .i64 e1, .int .i64 e2, .int .i64 e3, .int .i64 e4, .int .i64 e5, .int .i64 e6, .int .i64 e7, .int .i64 e8, .int .i64 e9, .int .i64 2, .int .i64 a1, .int .i64 a2, .int .i64 a3, .slice sA sl sc] 34)
  obtain ⟨H, hH⟩ : ∃ H, w.heap.size = H := ⟨_, rfl⟩
  rw [hH] at HB1 HO1
  try rw [hH]
  have HH := Lib.hid hH
  clear hH
  generalize w.alloc (.cells #[.int .i64 e0, .int .i64 e1, .int .i64 e2, .int .i64 e3, .int .i64 e4, .int .i64 e5, .int .i64 e6, .int .i64 e7, .int .i64 e8, .int .i64 e9, .int .i64 2, .int .i64 a1, .int .i64 a2, .int .i64 a3, .slice sA sl sc] 34) = w1 at HB1 h1 N1 ⊢
  replace HB1 := Lib.hid HB1
  replace HO1 := Lib.hid HO1
  clear h0 N0
  refine (c_begin3 h1 S wfi hf hbu hbf).mono ?_
  rintro r1 w2 ⟨rfl, o2, h2, n2⟩
  have N2 := N1.trans n2
  have HB2 : Hid (w2.heap[H]? = some (.cells #[.int .i64 e0, .int .i64 e1, .int .i64 e2, .int .i64 e3, .int .i64 e4, .int .i64 e5, .int .i64 e6, .int .i64 e7, .int .i64 e8, .int .i64 e9, .int .i64 2, .int .i64 a1, .int .i64 a2, .int .i64 a3, .slice sA sl sc] 34 (0, 0))) := Lib.hid (n2.blk HO1.out HB1.out)
  have HO2 := Lib.hid (n2.none HO1.out (lt_of_row HB1.out))
  clear HB1 HO1
  clear N1 n2 h1
  obtain ⟨g, p, hb, hid, hmx, hg, hp, hon, hpos, hbo⟩ := S.box hf
  clear hon hbo hg hp hpos hmx
  have HID := Lib.hid hid
  clear hid
  have hsb : (s.setB (setBusy b)).bx a1 = some (setBusy b) := by
    have hid := HID.out
    subst hid
    exact setB_at s (setBusy b)
  have q0 := h2.b3 hsb
  have q1 := h2.b0 hsb
  have q2 := h2.v0
  have q3 := (cellB HB2.out 14 _ rfl : w2.cell? ⟨H, 14, none⟩ = some (.slice sA sl sc))
  have HSB := Lib.hid hsb
  clear hsb
  have hbs : (setBusy b).boots = true := hbo
  rw [hbs] at q0
  go_wp2
  go_ret
  exact Res.no rfl rfl N2

set_option maxRecDepth 100000 in
set_option maxHeartbeats 1600000 in
theorem c_call2c {w : World} {own : Nat → Option Tag} {y : Lay} {s : Vs} {W : Wd} {N : Nat} (h : Cor w own y s) (S : Sim s W N) {e0 e1 e2 e3 e4 e5 e6 e7 e8 e9 a1 a2 a3 : Int} {sA : Option Addr} {sl sc : Nat} (wfi : (KL a1).wf = true) {b : Bv} (hf : fnd W.L a1 = some b) (hbu : b.busy = false) (hbf : b.fn = e1) (hbo : b.boots = false) (hsl : sl ≠ 0) : Calls Try.prog 14 #[ptr y.v, .agg #[.int .i64 e0, .int .i64 e1, .int .i64 e2, .int .i64 e3, .int .i64 e4, .int .i64 e5, .int .i64 e6, .int .i64 e7, .int .i64 e8, .int .i64 e9, .int .i64 2, .int .i64 a1, .int .i64 a2, .int .i64 a3, .slice sA sl sc]] w (Res w own y.v N none) := by
  have N0 := Nx.refl w own
  have h0 := h
  clear h
  go_enter Try.func14, Try.ntmps14
  go_wp2_with fail
  have HB1 := heap_alloc_new w (.cells #[.int .i64 e0, .int .i64 e1, .int .i64 e2, .int .i64 e3, .int .i64 e4, .int .i64 e5, .int .i64 e6, .int .i64 e7, .int .i64 e8, .int .i64 e9, .int .i64 2, .int .i64 a1, .int .i64 a2, .int .i64 a3, .slice sA sl sc] 34)
  have HO1 := h0.fresh (Nat.le_refl w.heap.size)
  have h1 := h0.alloc (.cells #[.int .i64 e0, .int .i64 e1, .int .i64 e2, .int .i64 e3, .int .i64 e4, .int .i64 e5, .int .i64 e6, .int .i64 e7, .int .i64 e8, .int .i64 e9, .int .i64 2, .int .i64 a1, .int .i64 a2, .int .i64 a3, .slice sA sl sc] 34)
  have N1 := N0.alloc (.cells #[.int .i64 e0, .int .i64 e1, .int .i64 e2, .int .i64 e3, .int .i64 e4, .int .i64 e5, .int .i64 e6, .int .i64 e7, .int .i64 e8, .int .i64 e9, .int .i64 2, .int .i64 a1, .int .i64 a2, .int .i64 a3, .slice sA sl sc] 34)
  obtain ⟨H, hH⟩ : ∃ H, w.heap.size = H := ⟨_, rfl⟩
  rw [hH] at HB1 HO1
  try rw [hH]
  have HH := Lib.hid hH
  clear hH
  generalize w.alloc (.cells #[.int .i64 e0, .int .i64 e1, .int .i64 e2, .int .i64 e3, .int .i64 e4, .int .i64 e5, .int .i64 e6, .int .i64 e7, .int .i64 e8, .int .i64 e9, .int .i64 2, .int .i64 a1, .int .i64 a2, .int .i64 a3, .slice sA sl sc] 34) = w1 at HB1 h1 N1 ⊢
  replace HB1 := Lib.hid HB1
  replace HO1 := Lib.hid HO1
  clear h0 N0
  refine (c_begin3 h1 S wfi hf hbu hbf).mono ?_
  rintro r1 w2 ⟨rfl, o2, h2, n2⟩
  have N2 := N1.trans n2
  have HB2 : Hid (w2.heap[H]? = some (.cells #[.int .i64 e0, .int .i64 e1, .int .i64 e2, .int .i64 e3, .int .i64 e4, .int .i64 e5, .int .i64 e6, .int .i64 e7, .int .i64 e8, .int .i64 e9, .int .i64 2, .int .i64 a1, .int .i64 a2, .int .i64 a3, .slice sA sl sc] 34 (0, 0))) := Lib.hid (n2.blk HO1.out HB1.out)
  have HO2 := Lib.hid (n2.none HO1.out (lt_of_row HB1.out))
  clear HB1 HO1
  clear N1 n2 h1
  obtain ⟨g, p, hb, hid, hmx, hg, hp, hon, hpos, hbo⟩ := S.box hf
  clear hon hbo hg hp hpos hmx
  have HID := Lib.hid hid
  clear hid
  have hsb : (s.setB (setBusy b)).bx a1 = some (setBusy b) := by
    have hid := HID.out
    subst hid
    exact setB_at s (setBusy b)
  have q0 := h2.b3 hsb
  have q1 := h2.b0 hsb
  have q2 := h2.v0
  have q3 := (cellB HB2.out 14 _ rfl : w2.cell? ⟨H, 14, none⟩ = some (.slice sA sl sc))
  have HSB := Lib.hid hsb
  clear hsb
  have hbs : (setBusy b).boots = false := hbo
  rw [hbs] at q0
  have hz : ((sl : Int) == 0) = false := beq_false_of_ne (by omega)
  go_wp2
  go_ret
  exact Res.no rfl rfl N2

set_option maxRecDepth 100000 in
set_option maxHeartbeats 1600000 in
theorem c_call2y {w : World} {own : Nat → Option Tag} {y : Lay} {s : Vs} {W : Wd} {N : Nat} (h : Cor w own y s) (S : Sim s W N) {e0 e1 e2 e3 e4 e5 e6 e7 e8 e9 a1 a2 a3 : Int} {sA : Option Addr} {sl sc : Nat} (wfi : (KL a1).wf = true) {b : Bv} (hf : fnd W.L a1 = some b) (hbu : b.busy = false) (hbf : b.fn = e1) (hbo : b.boots = false) (hsl : sl = 0) : Calls Try.prog 14 #[ptr y.v, .agg #[.int .i64 e0, .int .i64 e1, .int .i64 e2, .int .i64 e3, .int .i64 e4, .int .i64 e5, .int .i64 e6, .int .i64 e7, .int .i64 e8, .int .i64 e9, .int .i64 2, .int .i64 a1, .int .i64 a2, .int .i64 a3, .slice sA sl sc]] w (Res w own y.v N (some { W with L := up1 setBusy a1 W.L })) := by
  subst hsl
  have N0 := Nx.refl w own
  have h0 := h
  clear h
  go_enter Try.func14, Try.ntmps14
  go_wp2_with fail
  have HB1 := heap_alloc_new w (.cells #[.int .i64 e0, .int .i64 e1, .int .i64 e2, .int .i64 e3, .int .i64 e4, .int .i64 e5, .int .i64 e6, .int .i64 e7, .int .i64 e8, .int .i64 e9, .int .i64 2, .int .i64 a1, .int .i64 a2, .int .i64 a3, .slice sA 0 sc] 34)
  have HO1 := h0.fresh (Nat.le_refl w.heap.size)
  have h1 := h0.alloc (.cells #[.int .i64 e0, .int .i64 e1, .int .i64 e2, .int .i64 e3, .int .i64 e4, .int .i64 e5, .int .i64 e6, .int .i64 e7, .int .i64 e8, .int .i64 e9, .int .i64 2, .int .i64 a1, .int .i64 a2, .int .i64 a3, .slice sA 0 sc] 34)
  have N1 := N0.alloc (.cells #[.int .i64 e0, .int .i64 e1, .int .i64 e2, .int .i64 e3, .int .i64 e4, .int .i64 e5, .int .i64 e6, .int .i64 e7, .int .i64 e8, .int .i64 e9, .int .i64 2, .int .i64 a1, .int .i64 a2, .int .i64 a3, .slice sA 0 sc] 34)
  obtain ⟨H, hH⟩ : ∃ H, w.heap.size = H := ⟨_, rfl⟩
  rw [hH] at HB1 HO1
  try rw [hH]
  have HH := Lib.hid hH
  clear hH
  generalize w.alloc (.cells #[.int .i64 e0, .int .i64 e1, .int .i64 e2, .int .i64 e3, .int .i64 e4, .int .i64 e5, .int .i64 e6, .int .i64 e7, .int .i64 e8, .int .i64 e9, .int .i64 2, .int .i64 a1, .int .i64 a2, .int .i64 a3, .slice sA 0 sc] 34) = w1 at HB1 h1 N1 ⊢
  replace HB1 := Lib.hid HB1
  replace HO1 := Lib.hid HO1
  clear h0 N0
  refine (c_begin3 h1 S wfi hf hbu hbf).mono ?_
  rintro r1 w2 ⟨rfl, o2, h2, n2⟩
  have N2 := N1.trans n2
  have HB2 : Hid (w2.heap[H]? = some (.cells #[.int .i64 e0, .int .i64 e1, .int .i64 e2, .int .i64 e3, .int .i64 e4, .int .i64 e5, .int .i64 e6, .int .i64 e7, .int .i64 e8, .int .i64 e9, .int .i64 2, .int .i64 a1, .int .i64 a2, .int .i64 a3, .slice sA 0 sc] 34 (0, 0))) := Lib.hid (n2.blk HO1.out HB1.out)
  have HO2 := Lib.hid (n2.none HO1.out (lt_of_row HB1.out))
  clear HB1 HO1
  clear N1 n2 h1
  obtain ⟨g, p, hb, hid, hmx, hg, hp, hon, hpos, hbo⟩ := S.box hf
  clear hon hbo hg hp hpos hmx
  have HID := Lib.hid hid
  clear hid
  have hsb : (s.setB (setBusy b)).bx a1 = some (setBusy b) := by
    have hid := HID.out
    subst hid
    exact setB_at s (setBusy b)
  have q0 := h2.b3 hsb
  have q1 := h2.b0 hsb
  have q2 := h2.v0
  have q3 := (cellB HB2.out 14 _ rfl : w2.cell? ⟨H, 14, none⟩ = some (.slice sA 0 sc))
  have HSB := Lib.hid hsb
  clear hsb
  have hbs : (setBusy b).boots = false := hbo
  rw [hbs] at q0
  go_wp2
  go_ret
  exact Res.yes rfl rfl rfl N2 h2 (S.turn hf (f := setBusy) (fun _ => rfl) (fun _ => rfl) (fun _ => rfl))

set_option maxRecDepth 100000 in
set_option maxHeartbeats 1600000 in
theorem c_call3n {w : World} {own : Nat → Option Tag} {y : Lay} {s : Vs} {W : Wd} {N : Nat} (h : Cor w own y s) (S : Sim s W N) {e0 e1 e2 e3 e4 e5 e6 e7 e8 e9 a1 a2 a3 : Int} {sA : Option Addr} {sl sc : Nat} (wfi : (KL a1).wf = true) {b : Bv} (hf : fnd W.L a1 = some b) (hbu : b.busy = false) (hbf : b.fn = e1) (hbo : b.boots = false) : Calls Try.prog 14 #[ptr y.v, .agg #[.int .i64 e0, .int .i64 e1, .int .i64 e2, .int .i64 e3, .int .i64 e4, .int .i64 e5, .int .i64 e6, .int .i64 e7, .int .i64 e8, .int .i64 e9, .int .i64 3, .int .i64 a1, .int .i64 a2, .int .i64 a3, .slice sA sl sc]] w (Res w own y.v N none) := by
  have N0 := Nx.refl w own
  have h0 := h
  clear h
  go_enter Try.func14, Try.ntmps14
  go_wp2_with fail
  have HB1 := heap_alloc_new w (.cells #[.int .i64 e0, .int .i64 e1, .int .i64 e2, .int .i64 e3, .int .i64 e4, .int .i64 e5, .int .i64 e6, .int .i64 e7, .int .i64 e8, .int .i64 e9, .int .i64 3, .int .i64 a1, .int .i64 a2, .int .i64 a3, .slice sA sl sc] 34)
  have HO1 := h0.fresh (Nat.le_refl w.heap.size)
  have h1 := h0.alloc (.cells #[.int .i64 e0, .int .i64 e1, .int .i64 e2, .int .i64 e3, .int .i64 e4, .int .i64 e5, .int .i64 e6, .int .i64 e7, .int .i64 e8, .int .i64 e9, .int .i64 3, .int .i64 a1, .int .i64 a2, .int .i64 a3, .slice sA sl sc] 34)
  have N1 := N0.alloc (.cells #[.int .i64 e0, .int .i64 e1, .int .i64 e2, .int .i64 e3, .int .i64 e4, .int .i64 e5, .int .i64 e6, .int .i64 e7, .int .i64 e8, .int .i64 e9, .int .i64 3, .int .i64 a1, .int .i64 a2, .int .i64 a3, .slice sA sl sc] 34)
  obtain ⟨H, hH⟩ : ∃ H, w.heap.size = H := ⟨_, rfl⟩
  rw [hH] at HB1 HO1
  try rw [hH]
  have HH := Lib.hid hH
  clear hH
  generalize w.alloc (.cells #[.int .i64 e0, .int .i64 e1, .int .i64 e2, .int .i64 e3, .int .i64 e4, .int .i64 e5, .int .i64 e6, .int .i64 e7, .int .i64 e8, .int .i64 e9, .int .i64 3, .int .i64 a1, .int .i64 a2, .int .i64 a3, .slice sA sl sc] 34) = w1 at HB1 h1 N1 ⊢
  replace HB1 := Lib.hid HB1
  replace HO1 := Lib.hid HO1
  clear h0 N0
  refine (c_begin3 h1 S wfi hf hbu hbf).mono ?_
  rintro r1 w2 ⟨rfl, o2, h2, n2⟩
  have N2 := N1.trans n2
  have HB2 : Hid (w2.heap[H]? = some (.cells #[.int .i64 e0, .int .i64 e1, .int .i64 e2, .int .i64 e3, .int .i64 e4, .int .i64 e5, .int .i64 e6, .int .i64 e7, .int .i64 e8, .int .i64 e9, .int .i64 3, .int .i64 a1, .int .i64 a2, .int .i64 a3, .slice sA sl sc] 34 (0, 0))) := Lib.hid (n2.blk HO1.out HB1.out)
  have HO2 := Lib.hid (n2.none HO1.out (lt_of_row HB1.out))
  clear HB1 HO1
  clear N1 n2 h1
  obtain ⟨g, p, hb, hid, hmx, hg, hp, hon, hpos, hbo⟩ := S.box hf
  clear hon hbo hg hp hpos hmx
  have HID := Lib.hid hid
  clear hid
  have hsb : (s.setB (setBusy b)).bx a1 = some (setBusy b) := by
    have hid := HID.out
    subst hid
    exact setB_at s (setBusy b)
  have q0 := h2.b3 hsb
  have q1 := h2.b0 hsb
  have q2 := h2.v0
  have q3 := (cellB HB2.out 14 _ rfl : w2.cell? ⟨H, 14, none⟩ = some (.slice sA sl sc))
  have HSB := Lib.hid hsb
  clear hsb
  have hbi : (setBusy b).id = a1 := HID.out
  rw [hbi] at q1
  clear hbi
  have hla : (s.setB (setBusy b)).last = s.last := rfl
  rw [hla] at q2
  clear hla
  have hbs : (setBusy b).boots = false := hbo
  rw [hbs] at q0
  go_wp2_with fail
  go_quiet (fail)
  have h3 := h2.drewN nq
  have N3 := N2.drewN nq
  clear q0 q1 q2 q3
  have HB3 : Hid ((w2.drewN nq).heap[H]? = some (.cells #[.int .i64 e0, .int .i64 e1, .int .i64 e2, .int .i64 e3, .int .i64 e4, .int .i64 e5, .int .i64 e6, .int .i64 e7, .int .i64 e8, .int .i64 e9, .int .i64 3, .int .i64 a1, .int .i64 a2, .int .i64 a3, .slice sA sl sc] 34 (0, 0))) := HB2
  have HO3 := HO2
  clear HB2 HO2
  generalize w2.drewN nq = w3 at h3 N3 HB3 ⊢
  clear h2 N2
  go_wp2
  go_ret
  exact Res.no rfl rfl N3

set_option maxRecDepth 100000 in
set_option maxHeartbeats 1600000 in
theorem c_call3l {w : World} {own : Nat → Option Tag} {y : Lay} {s : Vs} {W : Wd} {N : Nat} (h : Cor w own y s) (S : Sim s W N) {e0 e1 e2 e3 e4 e5 e6 e7 e8 e9 a1 a2 a3 : Int} {sA : Option Addr} {sl sc : Nat} (wfi : (KL a1).wf = true) {b : Bv} (hf : fnd W.L a1 = some b) (hbu : b.busy = false) (hbf : b.fn = e1) (hbo : b.boots = true) (hla : a1 ≠ s.last) : Calls Try.prog 14 #[ptr y.v, .agg #[.int .i64 e0, .int .i64 e1, .int .i64 e2, .int .i64 e3, .int .i64 e4, .int .i64 e5, .int .i64 e6, .int .i64 e7, .int .i64 e8, .int .i64 e9, .int .i64 3, .int .i64 a1, .int .i64 a2, .int .i64 a3, .slice sA sl sc]] w (Res w own y.v N none) := by
  have HLA := Lib.hid hla
  clear hla
  have N0 := Nx.refl w own
  have h0 := h
  clear h
  go_enter Try.func14, Try.ntmps14
  go_wp2_with fail
  have HB1 := heap_alloc_new w (.cells #[.int .i64 e0, .int .i64 e1, .int .i64 e2, .int .i64 e3, .int .i64 e4, .int .i64 e5, .int .i64 e6, .int .i64 e7, .int .i64 e8, .int .i64 e9, .int .i64 3, .int .i64 a1, .int .i64 a2, .int .i64 a3, .slice sA sl sc] 34)
  have HO1 := h0.fresh (Nat.le_refl w.heap.size)
  have h1 := h0.alloc (.cells #[.int .i64 e0, .int .i64 e1, .int .i64 e2, .int .i64 e3, .int .i64 e4, .int .i64 e5, .int .i64 e6, .int .i64 e7, .int .i64 e8, .int .i64 e9, .int .i64 3, .int .i64 a1, .int .i64 a2, .int .i64 a3, .slice sA sl sc] 34)
  have N1 := N0.alloc (.cells #[.int .i64 e0, .int .i64 e1, .int .i64 e2, .int .i64 e3, .int .i64 e4, .int .i64 e5, .int .i64 e6, .int .i64 e7, .int .i64 e8, .int .i64 e9, .int .i64 3, .int .i64 a1, .int .i64 a2, .int .i64 a3, .slice sA sl sc] 34)
  obtain ⟨H, hH⟩ : ∃ H, w.heap.size = H := ⟨_, rfl⟩
  rw [hH] at HB1 HO1
  try rw [hH]
  have HH := Lib.hid hH
  clear hH
  generalize w.alloc (.cells #[.int .i64 e0, .int .i64 e1, .int .i64 e2, .int .i64 e3, .int .i64 e4, .int .i64 e5, .int .i64 e6, .int .i64 e7, .int .i64 e8, .int .i64 e9, .int .i64 3, .int .i64 a1, .int .i64 a2, .int .i64 a3, .slice sA sl sc] 34) = w1 at HB1 h1 N1 ⊢
  replace HB1 := Lib.hid HB1
  replace HO1 := Lib.hid HO1
  clear h0 N0
  refine (c_begin3 h1 S wfi hf hbu hbf).mono ?_
  rintro r1 w2 ⟨rfl, o2, h2, n2⟩
  have N2 := N1.trans n2
  have HB2 : Hid (w2.heap[H]? = some (.cells #[.int .i64 e0, .int .i64 e1, .int .i64 e2, .int .i64 e3, .int .i64 e4, .int .i64 e5, .int .i64 e6, .int .i64 e7, .int .i64 e8, .int .i64 e9, .int .i64 3, .int .i64 a1, .int .i64 a2, .int .i64 a3, .slice sA sl sc] 34 (0, 0))) := Lib.hid (n2.blk HO1.out HB1.out)
  have HO2 := Lib.hid (n2.none HO1.out (lt_of_row HB1.out))
  clear HB1 HO1
  clear N1 n2 h1
  obtain ⟨g, p, hb, hid, hmx, hg, hp, hon, hpos, hbo⟩ := S.box hf
  clear hon hbo hg hp hpos hmx
  have HID := Lib.hid hid
  clear hid
  have hsb : (s.setB (setBusy b)).bx a1 = some (setBusy b) := by
    have hid := HID.out
    subst hid
    exact setB_at s (setBusy b)
  have q0 := h2.b3 hsb
  have q1 := h2.b0 hsb
  have q2 := h2.v0
  have q3 := (cellB HB2.out 14 _ rfl : w2.cell? ⟨H, 14, none⟩ = some (.slice sA sl sc))
  have HSB := Lib.hid hsb
  clear hsb
  have hbi : (setBusy b).id = a1 := HID.out
  rw [hbi] at q1
  clear hbi
  have hla : (s.setB (setBusy b)).last = s.last := rfl
  rw [hla] at q2
  clear hla
  have hbs : (setBusy b).boots = true := hbo
  rw [hbs] at q0
  have hz : (a1 == s.last) = false := beq_false_of_ne HLA.out
  go_wp2_with fail
  go_quiet (fail)
  have h3 := h2.drewN nq
  have N3 := N2.drewN nq
  clear q0 q1 q2 q3
  have HB3 : Hid ((w2.drewN nq).heap[H]? = some (.cells #[.int .i64 e0, .int .i64 e1, .int .i64 e2, .int .i64 e3, .int .i64 e4, .int .i64 e5, .int .i64 e6, .int .i64 e7, .int .i64 e8, .int .i64 e9, .int .i64 3, .int .i64 a1, .int .i64 a2, .int .i64 a3, .slice sA sl sc] 34 (0, 0))) := HB2
  have HO3 := HO2
  clear HB2 HO2
  generalize w2.drewN nq = w3 at h3 N3 HB3 ⊢
  clear h2 N2
  go_wp2
  go_ret
  exact Res.no rfl rfl N3

set_option maxRecDepth 100000 in
set_option maxHeartbeats 1600000 in
theorem c_call3y {w : World} {own : Nat → Option Tag} {y : Lay} {s : Vs} {W : Wd} {N : Nat} (h : Cor w own y s) (S : Sim s W N) {e0 e1 e2 e3 e4 e5 e6 e7 e8 e9 a1 a2 a3 : Int} {sA : Option Addr} {sl sc : Nat} (wfi : (KL a1).wf = true) {b : Bv} (hf : fnd W.L a1 = some b) (hbu : b.busy = false) (hbf : b.fn = e1) (hbo : b.boots = true) (hla : a1 = s.last) : Calls Try.prog 14 #[ptr y.v, .agg #[.int .i64 e0, .int .i64 e1, .int .i64 e2, .int .i64 e3, .int .i64 e4, .int .i64 e5, .int .i64 e6, .int .i64 e7, .int .i64 e8, .int .i64 e9, .int .i64 3, .int .i64 a1, .int .i64 a2, .int .i64 a3, .slice sA sl sc]] w (Res w own y.v N (some { W with L := up1 setBusy a1 W.L })) := by
  have HLA := Lib.hid hla
  clear hla
  have N0 := Nx.refl w own
  have h0 := h
  clear h
  go_enter Try.func14, Try.ntmps14
  go_wp2_with fail
  have HB1 := heap_alloc_new w (.cells #[.int .i64 e0, .int .i64 e1, .int .i64 e2, .int .i64 e3, .int .i64 e4, .int .i64 e5, .int .i64 e6, .int .i64 e7, .int .i64 e8, .int .i64 e9, .int .i64 3, .int .i64 a1, .int .i64 a2, .int .i64 a3, .slice sA sl sc] 34)
  have HO1 := h0.fresh (Nat.le_refl w.heap.size)
  have h1 := h0.alloc (.cells #[.int .i64 e0, .int .i64 e1, .int .i64 e2, .int .i64 e3, .int .i64 e4, .int .i64 e5, .int .i64 e6, .int .i64 e7, .int .i64 e8, .int .i64 e9, .int .i64 3, .int .i64 a1, .int .i64 a2, .int .i64 a3, .slice sA sl sc] 34)
  have N1 := N0.alloc (.cells #[.int .i64 e0, .int .i64 e1, .int .i64 e2, .int .i64 e3, .int .i64 e4, .int .i64 e5, .int .i64 e6, .int .i64 e7, .int .i64 e8, .int .i64 e9, .int .i64 3, .int .i64 a1, .int .i64 a2, .int .i64 a3, .slice sA sl sc] 34)
  obtain ⟨H, hH⟩ : ∃ H, w.heap.size = H := ⟨_, rfl⟩
  rw [hH] at HB1 HO1
  try rw [hH]
  have HH := Lib.hid hH
  clear hH
  generalize w.alloc (.cells #[.int .i64 e0, .int .i64 e1, .int .i64 e2, .int .i64 e3, .int .i64 e4, .int .i64 e5, .int .i64 e6, .int .i64 e7, .int .i64 e8, .int .i64 e9, .int .i64 3, .int .i64 a1, .int .i64 a2, .int .i64 a3, .slice sA sl sc] 34) = w1 at HB1 h1 N1 ⊢
  replace HB1 := Lib.hid HB1
  replace HO1 := Lib.hid HO1
  clear h0 N0
  refine (c_begin3 h1 S wfi hf hbu hbf).mono ?_
  rintro r1 w2 ⟨rfl, o2, h2, n2⟩
  have N2 := N1.trans n2
  have HB2 : Hid (w2.heap[H]? = some (.cells #[.int .i64 e0, .int .i64 e1, .int .i64 e2, .int .i64 e3, .int .i64 e4, .int .i64 e5, .int .i64 e6, .int .i64 e7, .int .i64 e8, .int .i64 e9, .int .i64 3, .int .i64 a1, .int .i64 a2, .int .i64 a3, .slice sA sl sc] 34 (0, 0))) := Lib.hid (n2.blk HO1.out HB1.out)
  have HO2 := Lib.hid (n2.none HO1.out (lt_of_row HB1.out))
  clear HB1 HO1
  clear N1 n2 h1
  obtain ⟨g, p, hb, hid, hmx, hg, hp, hon, hpos, hbo⟩ := S.box hf
  clear hon hbo hg hp hpos hmx
  have HID := Lib.hid hid
  clear hid
  have hsb : (s.setB (setBusy b)).bx a1 = some (setBusy b) := by
    have hid := HID.out
    subst hid
    exact setB_at s (setBusy b)
  have q0 := h2.b3 hsb
  have q1 := h2.b0 hsb
  have q2 := h2.v0
  have q3 := (cellB HB2.out 14 _ rfl : w2.cell? ⟨H, 14, none⟩ = some (.slice sA sl sc))
  have HSB := Lib.hid hsb
  clear hsb
  have hbi : (setBusy b).id = a1 := HID.out
  rw [hbi] at q1
  clear hbi
  have hla : (s.setB (setBusy b)).last = s.last := rfl
  rw [hla] at q2
  clear hla
  have hbs : (setBusy b).boots = true := hbo
  rw [hbs] at q0
  rw [← HLA.out] at q2
  go_wp2_with fail
  go_quiet (fail)
  have h3 := h2.drewN nq
  have N3 := N2.drewN nq
  clear q0 q1 q2 q3
  have HB3 : Hid ((w2.drewN nq).heap[H]? = some (.cells #[.int .i64 e0, .int .i64 e1, .int .i64 e2, .int .i64 e3, .int .i64 e4, .int .i64 e5, .int .i64 e6, .int .i64 e7, .int .i64 e8, .int .i64 e9, .int .i64 3, .int .i64 a1, .int .i64 a2, .int .i64 a3, .slice sA sl sc] 34 (0, 0))) := HB2
  have HO3 := HO2
  clear HB2 HO2
  generalize w2.drewN nq = w3 at h3 N3 HB3 ⊢
  clear h2 N2
  go_wp2
  go_ret
  exact Res.yes rfl rfl rfl N3 h3 (S.turn hf (f := setBusy) (fun _ => rfl) (fun _ => rfl) (fun _ => rfl))

set_option maxRecDepth 100000 in
set_option maxHeartbeats 1600000 in
theorem c_call4y {w : World} {own : Nat → Option Tag} {y : Lay} {s : Vs} {W : Wd} {N : Nat} (h : Cor w own y s) (S : Sim s W N) {e0 e1 e2 e3 e4 e5 e6 e7 e8 e9 a1 a2 a3 : Int} {sA : Option Addr} {sl sc : Nat} (hsl : sl = 0) : Calls Try.prog 14 #[ptr y.v, .agg #[.int .i64 e0, .int .i64 e1, .int .i64 e2, .int .i64 e3, .int .i64 e4, .int .i64 e5, .int .i64 e6, .int .i64 e7, .int .i64 e8, .int .i64 e9, .int .i64 4, .int .i64 a1, .int .i64 a2, .int .i64 a3, .slice sA sl sc]] w (Res w own y.v N (some W)) := by
  subst hsl
  have N0 := Nx.refl w own
  have h0 := h
  clear h
  go_enter Try.func14, Try.ntmps14
  go_wp2
  go_ret
  exact Res.yes rfl rfl rfl (N0.alloc _) (h0.alloc _) S

set_option maxRecDepth 100000 in
set_option maxHeartbeats 1600000 in
theorem c_call4n {w : World} {own : Nat → Option Tag} {y : Lay} {s : Vs} {W : Wd} {N : Nat} (h : Cor w own y s) (S : Sim s W N) {e0 e1 e2 e3 e4 e5 e6 e7 e8 e9 a1 a2 a3 : Int} {sA : Option Addr} {sl sc : Nat} (hsl : sl ≠ 0) : Calls Try.prog 14 #[ptr y.v, .agg #[.int .i64 e0, .int .i64 e1, .int .i64 e2, .int .i64 e3, .int .i64 e4, .int .i64 e5, .int .i64 e6, .int .i64 e7, .int .i64 e8, .int .i64 e9, .int .i64 4, .int .i64 a1, .int .i64 a2, .int .i64 a3, .slice sA sl sc]] w (Res w own y.v N none) := by
  have hz : ((sl : Int) == 0) = false := beq_false_of_ne (by omega)
  have N0 := Nx.refl w own
  have h0 := h
  clear h
  go_enter Try.func14, Try.ntmps14
  go_wp2
  go_ret
  exact Res.no rfl rfl (N0.alloc _)

set_option maxRecDepth 100000 in
set_option maxHeartbeats 1600000 in
theorem c_call0 {w : World} {own : Nat → Option Tag} {y : Lay} {s : Vs} {W : Wd} {N : Nat} (h : Cor w own y s) (S : Sim s W N) {e0 e1 e2 e3 e4 e5 e6 e7 e8 e9 a1 a2 a3 : Int} {sA : Option Addr} {sl sc : Nat} : Calls Try.prog 14 #[ptr y.v, .agg #[.int .i64 e0, .int .i64 e1, .int .i64 e2, .int .i64 e3, .int .i64 e4, .int .i64 e5, .int .i64 e6, .int .i64 e7, .int .i64 e8, .int .i64 e9, .int .i64 0, .int .i64 a1, .int .i64 a2, .int .i64 a3, .slice sA sl sc]] w (Res w own y.v N none) := by
  have N0 := Nx.refl w own
  have h0 := h
  clear h
  go_enter Try.func14, Try.ntmps14
  go_wp2
  go_ret
  exact Res.no rfl rfl (N0.alloc _)

set_option maxRecDepth 100000 in
set_option maxHeartbeats 1600000 in
theorem c_call {w : World} {own : Nat → Option Tag} {y : Lay} {s : Vs} {W : Wd} {N : Nat} (h : Cor w own y s) (S : Sim s W N) {e0 e1 e2 e3 e4 e5 e6 e7 e8 e9 a0 a1 a2 a3 : Int} {sA : Option Addr} {sl sc : Nat} {cs : List Cmd} (hcs : cs.length = sl) (h6 : e0 = 6) (ha : okA ⟨a0, a1, a2, a3⟩) (hn1 : a0 ≠ 1) (hn0 : a0 ≠ 0) : Calls Try.prog 14 #[ptr y.v, .agg #[.int .i64 e0, .int .i64 e1, .int .i64 e2, .int .i64 e3, .int .i64 e4, .int .i64 e5, .int .i64 e6, .int .i64 e7, .int .i64 e8, .int .i64 e9, .int .i64 a0, .int .i64 a1, .int .i64 a2, .int .i64 a3, .slice sA sl sc]] w (Res w own y.v N (clo W ⟨e0, e1, e2, e3, e4, e5, e6, e7, e8, e9⟩ ⟨a0, a1, a2, a3⟩ cs)) := by
  have hl := S.last
  have hcs0 : cs = [] ↔ sl = 0 := by rw [← hcs]; exact List.length_eq_zero_iff.symm
  rcases ha with ⟨q, _⟩ | ⟨q, _⟩ | ⟨q, q1, q2, _⟩ | ⟨q, _⟩
  · exact absurd q hn0
  · exact absurd q hn1
  · dsimp only at q q1 q2
    have wfi : (KL a1).wf = true := wfK (by omega) (by omega)
    have ha4 : a0 ≠ 4 := by omega
    by_cases hbad : Bad W a1 e1
    · rw [clo_bad (show (_ : Ev).k = 6 from h6) (show (_ : An).k ≠ 4 from ha4) hbad]
      rcases q with q | q
      · subst q; exact c_call2b h S wfi hbad
      · subst q; exact c_call3b h S wfi hbad
    · cases hf : fnd W.L a1 with
      | none => exact absurd (Or.inl hf) hbad
      | some b =>
        have hbu : b.busy = false := by
          cases u : b.busy with
          | false => rfl
          | true => exact absurd (Or.inr ⟨b, hf, Or.inl u⟩) hbad
        have hbf : b.fn = e1 := by
          apply Classical.byContradiction
          intro u
          exact absurd (Or.inr ⟨b, hf, Or.inr u⟩) hbad
        rcases q with q | q
        · subst q
          cases hb : b.boots with
          | true =>
            rw [clo_not (show (_ : Ev).k = 6 from h6) (show (_ : An).k ≠ 4 from ha4) hf (fun z => by have := (z.1 rfl).1; rw [hb] at this; cases this)]
            exact c_call2n h S wfi hf hbu hbf hb
          | false =>
            by_cases hsl : sl = 0
            · rw [clo_yes (show (_ : Ev).k = 6 from h6) (show (_ : An).k ≠ 4 from ha4) hf hbu hbf ⟨fun _ => ⟨hb, hcs0.2 hsl⟩, fun z => absurd (show (2 : Int) = 3 from z) (by decide)⟩]
              exact c_call2y h S wfi hf hbu hbf hb hsl
            · rw [clo_not (show (_ : Ev).k = 6 from h6) (show (_ : An).k ≠ 4 from ha4) hf (fun z => hsl (hcs0.1 (z.1 rfl).2))]
              exact c_call2c h S wfi hf hbu hbf hb hsl
        · subst q
          cases hb : b.boots with
          | false =>
            rw [clo_not (show (_ : Ev).k = 6 from h6) (show (_ : An).k ≠ 4 from ha4) hf (fun z => by have := (z.2 rfl).1; rw [hb] at this; cases this)]
            exact c_call3n h S wfi hf hbu hbf hb
          | true =>
            by_cases hla : a1 = s.last
            · rw [clo_yes (show (_ : Ev).k = 6 from h6) (show (_ : An).k ≠ 4 from ha4) hf hbu hbf ⟨fun z => absurd (show (3 : Int) = 2 from z) (by decide), fun _ => ⟨hb, by dsimp only; omega⟩⟩]
              exact c_call3y h S wfi hf hbu hbf hb hla
            · rw [clo_not (show (_ : Ev).k = 6 from h6) (show (_ : An).k ≠ 4 from ha4) hf (fun z => hla (by have := (z.2 rfl).2; dsimp only at this; omega))]
              exact c_call3l h S wfi hf hbu hbf hb hla
  · dsimp only at q
    subst q
    by_cases hsl : sl = 0
    · have : clo W ⟨e0, e1, e2, e3, e4, e5, e6, e7, e8, e9⟩ ⟨4, a1, a2, a3⟩ cs = some W := by
        unfold clo; rw [if_neg (by simp [h6]), if_pos rfl, if_pos (hcs0.2 hsl)]
      rw [this]; exact c_call4y h S hsl
    · have : clo W ⟨e0, e1, e2, e3, e4, e5, e6, e7, e8, e9⟩ ⟨4, a1, a2, a3⟩ cs = none := by
        unfold clo; rw [if_neg (by simp [h6]), if_pos rfl, if_neg (fun z => hsl (hcs0.1 z))]
      rw [this]; exact c_call4n h S hsl

end Go.Proofs.Ytgpookphacdgoaa.W.U
