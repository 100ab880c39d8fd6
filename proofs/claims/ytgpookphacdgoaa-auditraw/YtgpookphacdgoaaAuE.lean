/- Package audit: a call that begins, and what happens to a sandbox. -/
import Derived.Test.YtgpookphacdgoaaAuD
namespace Go.Proofs.Ytgpookphacdgoaa.W.U
open Go.RowKit Go.Maps Go.ChangeMaps Go.MapKept Go.Proofs.Ytgpookphacdgoaa.W


set_option maxRecDepth 100000 in
set_option maxHeartbeats 1600000 in
theorem c_begin0 {w : World} {own : Nat → Option Tag} {y : Lay} {s : Vs} {W : Wd} {N : Nat} (h : Cor w own y s) (S : Sim s W N) {e0 e1 e2 e3 e4 e5 e6 e7 e8 e9 a0 a1 a2 a3 : Int} {sA : Option Addr} {sl sc : Nat} (wfi : (KL a1).wf = true) (hmx : s.mx.a a1 = none) : Calls Try.prog 26 #[ptr y.v, .agg #[.int .i64 e0, .int .i64 e1, .int .i64 e2, .int .i64 e3, .int .i64 e4, .int .i64 e5, .int .i64 e6, .int .i64 e7, .int .i64 e8, .int .i64 e9, .int .i64 a0, .int .i64 a1, .int .i64 a2, .int .i64 a3, .slice sA sl sc]] w fun e w' => e = .returned (.tuple #[.pointer none, .bool false]) ∧ To w own y s w' := by
  have N0 := Nx.refl w own
  have h0 := h
  clear h
  go_enter Try.func26, Try.ntmps26
  go_wp2_with fail
  have HB1 := heap_alloc_new w (.cells #[.int .i64 e0, .int .i64 e1, .int .i64 e2, .int .i64 e3, .int .i64 e4, .int .i64 e5, .int .i64 e6, .int .i64 e7, .int .i64 e8, .int .i64 e9, .int .i64 a0, .int .i64 a1, .int .i64 a2, .int .i64 a3, .slice sA sl sc] 34)
  have HO1 := h0.fresh (Nat.le_refl w.heap.size)
  have h1 := h0.alloc (.cells #[.int .i64 e0, .int .i64 e1, .int .i64 e2, .int .i64 e3, .int .i64 e4, .int .i64 e5, .int .i64 e6, .int .i64 e7, .int .i64 e8, .int .i64 e9, .int .i64 a0, .int .i64 a1, .int .i64 a2, .int .i64 a3, .slice sA sl sc] 34)
  have N1 := N0.alloc (.cells #[.int .i64 e0, .int .i64 e1, .int .i64 e2, .int .i64 e3, .int .i64 e4, .int .i64 e5, .int .i64 e6, .int .i64 e7, .int .i64 e8, .int .i64 e9, .int .i64 a0, .int .i64 a1, .int .i64 a2, .int .i64 a3, .slice sA sl sc] 34)
  obtain ⟨H, hH⟩ : ∃ H, w.heap.size = H := ⟨_, rfl⟩
  rw [hH] at HB1 HO1
  try rw [hH]
  have HH := Lib.hid hH
  clear hH
  generalize w.alloc (.cells #[.int .i64 e0, .int .i64 e1, .int .i64 e2, .int .i64 e3, .int .i64 e4, .int .i64 e5, .int .i64 e6, .int .i64 e7, .int .i64 e8, .int .i64 e9, .int .i64 a0, .int .i64 a1, .int .i64 a2, .int .i64 a3, .slice sA sl sc] 34) = w1 at HB1 h1 N1 ⊢
  replace HB1 := Lib.hid HB1
  replace HO1 := Lib.hid HO1
  clear h0 N0
  have q0 := h1.v3
  have q1 := (cellB HB1.out 11 _ rfl : w1.cell? ⟨H, 11, none⟩ = some (.int .i64 a1))
  have q2 := fun y => (h1.drewN y).lxN hmx wfi
  have q3 := h1.drew.lxN hmx wfi
  have q4 := h1.lxN hmx wfi
  go_quiet (fail)
  have h2 := h1.drewN nq
  have N2 := N1.drewN nq
  clear q0 q1 q2 q3 q4
  have HB2 : Hid ((w1.drewN nq).heap[H]? = some (.cells #[.int .i64 e0, .int .i64 e1, .int .i64 e2, .int .i64 e3, .int .i64 e4, .int .i64 e5, .int .i64 e6, .int .i64 e7, .int .i64 e8, .int .i64 e9, .int .i64 a0, .int .i64 a1, .int .i64 a2, .int .i64 a3, .slice sA sl sc] 34 (0, 0))) := HB1
  have HO2 := HO1
  clear HB1 HO1
  generalize w1.drewN nq = w2 at h2 N2 HB2 ⊢
  clear h1 N1
  go_wp2_with fail
  have q5 := (cellB HB2.out 1 _ rfl : w2.cell? ⟨H, 1, none⟩ = some (.int .i64 e1))
  go_quiet (fail)
  have h3 := h2.drewN nq
  have N3 := N2.drewN nq
  clear q5
  have HB3 : Hid ((w2.drewN nq).heap[H]? = some (.cells #[.int .i64 e0, .int .i64 e1, .int .i64 e2, .int .i64 e3, .int .i64 e4, .int .i64 e5, .int .i64 e6, .int .i64 e7, .int .i64 e8, .int .i64 e9, .int .i64 a0, .int .i64 a1, .int .i64 a2, .int .i64 a3, .slice sA sl sc] 34 (0, 0))) := HB2
  have HO3 := HO2
  clear HB2 HO2
  generalize w2.drewN nq = w3 at h3 N3 HB3 ⊢
  clear h2 N2
  go_wp2
  go_ret2
  exact ⟨rfl, _, h3, N3⟩

set_option maxRecDepth 100000 in
set_option maxHeartbeats 1600000 in
theorem c_begin1 {w : World} {own : Nat → Option Tag} {y : Lay} {s : Vs} {W : Wd} {N : Nat} (h : Cor w own y s) (S : Sim s W N) {e0 e1 e2 e3 e4 e5 e6 e7 e8 e9 a0 a1 a2 a3 : Int} {sA : Option Addr} {sl sc : Nat} (wfi : (KL a1).wf = true) {b : Bv} (e : fnd W.L a1 = some b) (hbu : b.busy = true) : Calls Try.prog 26 #[ptr y.v, .agg #[.int .i64 e0, .int .i64 e1, .int .i64 e2, .int .i64 e3, .int .i64 e4, .int .i64 e5, .int .i64 e6, .int .i64 e7, .int .i64 e8, .int .i64 e9, .int .i64 a0, .int .i64 a1, .int .i64 a2, .int .i64 a3, .slice sA sl sc]] w fun e w' => e = .returned (.tuple #[.pointer none, .bool false]) ∧ To w own y s w' := by
  obtain ⟨bi, bf, bh, bb, bu⟩ := b
  dsimp only at hbu
  subst hbu
  have N0 := Nx.refl w own
  have h0 := h
  clear h
  obtain ⟨g, p, hb, hid, hmx, hg, hp, hon, hpos, hbo⟩ := S.box e
  clear hon hbo hg hp hpos
  have HID := Lib.hid hid
  clear hid
  go_enter Try.func26, Try.ntmps26
  go_wp2_with fail
  have HB1 := heap_alloc_new w (.cells #[.int .i64 e0, .int .i64 e1, .int .i64 e2, .int .i64 e3, .int .i64 e4, .int .i64 e5, .int .i64 e6, .int .i64 e7, .int .i64 e8, .int .i64 e9, .int .i64 a0, .int .i64 a1, .int .i64 a2, .int .i64 a3, .slice sA sl sc] 34)
  have HO1 := h0.fresh (Nat.le_refl w.heap.size)
  have h1 := h0.alloc (.cells #[.int .i64 e0, .int .i64 e1, .int .i64 e2, .int .i64 e3, .int .i64 e4, .int .i64 e5, .int .i64 e6, .int .i64 e7, .int .i64 e8, .int .i64 e9, .int .i64 a0, .int .i64 a1, .int .i64 a2, .int .i64 a3, .slice sA sl sc] 34)
  have N1 := N0.alloc (.cells #[.int .i64 e0, .int .i64 e1, .int .i64 e2, .int .i64 e3, .int .i64 e4, .int .i64 e5, .int .i64 e6, .int .i64 e7, .int .i64 e8, .int .i64 e9, .int .i64 a0, .int .i64 a1, .int .i64 a2, .int .i64 a3, .slice sA sl sc] 34)
  obtain ⟨H, hH⟩ : ∃ H, w.heap.size = H := ⟨_, rfl⟩
  rw [hH] at HB1 HO1
  try rw [hH]
  have HH := Lib.hid hH
  clear hH
  generalize w.alloc (.cells #[.int .i64 e0, .int .i64 e1, .int .i64 e2, .int .i64 e3, .int .i64 e4, .int .i64 e5, .int .i64 e6, .int .i64 e7, .int .i64 e8, .int .i64 e9, .int .i64 a0, .int .i64 a1, .int .i64 a2, .int .i64 a3, .slice sA sl sc] 34) = w1 at HB1 h1 N1 ⊢
  replace HB1 := Lib.hid HB1
  replace HO1 := Lib.hid HO1
  clear h0 N0
  have q0 := h1.v3
  have q1 := (cellB HB1.out 11 _ rfl : w1.cell? ⟨H, 11, none⟩ = some (.int .i64 a1))
  have q2 := fun y => (h1.drewN y).lxK hmx wfi
  have q3 := h1.drew.lxK hmx wfi
  have q4 := h1.lxK hmx wfi
  go_quiet (fail)
  have h2 := h1.drewN nq
  have N2 := N1.drewN nq
  clear q0 q1 q2 q3 q4
  have HB2 : Hid ((w1.drewN nq).heap[H]? = some (.cells #[.int .i64 e0, .int .i64 e1, .int .i64 e2, .int .i64 e3, .int .i64 e4, .int .i64 e5, .int .i64 e6, .int .i64 e7, .int .i64 e8, .int .i64 e9, .int .i64 a0, .int .i64 a1, .int .i64 a2, .int .i64 a3, .slice sA sl sc] 34 (0, 0))) := HB1
  have HO2 := HO1
  clear HB1 HO1
  generalize w1.drewN nq = w2 at h2 N2 HB2 ⊢
  clear h1 N1
  go_wp2_with fail
  have q5 := (cellB HB2.out 1 _ rfl : w2.cell? ⟨H, 1, none⟩ = some (.int .i64 e1))
  have q6 := h2.b4 hb
  have q7 := h2.b1 hb
  go_quiet (fail)
  have h3 := h2.drewN nq
  have N3 := N2.drewN nq
  clear q5 q6 q7
  have HB3 : Hid ((w2.drewN nq).heap[H]? = some (.cells #[.int .i64 e0, .int .i64 e1, .int .i64 e2, .int .i64 e3, .int .i64 e4, .int .i64 e5, .int .i64 e6, .int .i64 e7, .int .i64 e8, .int .i64 e9, .int .i64 a0, .int .i64 a1, .int .i64 a2, .int .i64 a3, .slice sA sl sc] 34 (0, 0))) := HB2
  have HO3 := HO2
  clear HB2 HO2
  generalize w2.drewN nq = w3 at h3 N3 HB3 ⊢
  clear h2 N2
  go_wp2
  go_ret2
  exact ⟨rfl, _, h3, N3⟩

set_option maxRecDepth 100000 in
set_option maxHeartbeats 1600000 in
theorem c_begin2 {w : World} {own : Nat → Option Tag} {y : Lay} {s : Vs} {W : Wd} {N : Nat} (h : Cor w own y s) (S : Sim s W N) {e0 e1 e2 e3 e4 e5 e6 e7 e8 e9 a0 a1 a2 a3 : Int} {sA : Option Addr} {sl sc : Nat} (wfi : (KL a1).wf = true) {b : Bv} (e : fnd W.L a1 = some b) (hbu : b.busy = false) (hbf : b.fn ≠ e1) : Calls Try.prog 26 #[ptr y.v, .agg #[.int .i64 e0, .int .i64 e1, .int .i64 e2, .int .i64 e3, .int .i64 e4, .int .i64 e5, .int .i64 e6, .int .i64 e7, .int .i64 e8, .int .i64 e9, .int .i64 a0, .int .i64 a1, .int .i64 a2, .int .i64 a3, .slice sA sl sc]] w fun e w' => e = .returned (.tuple #[.pointer none, .bool false]) ∧ To w own y s w' := by
  have hd : (b.fn == e1) = false := beq_false_of_ne hbf
  have N0 := Nx.refl w own
  have h0 := h
  clear h
  obtain ⟨g, p, hb, hid, hmx, hg, hp, hon, hpos, hbo⟩ := S.box e
  clear hon hbo hg hp hpos
  have HID := Lib.hid hid
  clear hid
  go_enter Try.func26, Try.ntmps26
  go_wp2_with fail
  have HB1 := heap_alloc_new w (.cells #[.int .i64 e0, .int .i64 e1, .int .i64 e2, .int .i64 e3, .int .i64 e4, .int .i64 e5, .int .i64 e6, .int .i64 e7, .int .i64 e8, .int .i64 e9, .int .i64 a0, .int .i64 a1, .int .i64 a2, .int .i64 a3, .slice sA sl sc] 34)
  have HO1 := h0.fresh (Nat.le_refl w.heap.size)
  have h1 := h0.alloc (.cells #[.int .i64 e0, .int .i64 e1, .int .i64 e2, .int .i64 e3, .int .i64 e4, .int .i64 e5, .int .i64 e6, .int .i64 e7, .int .i64 e8, .int .i64 e9, .int .i64 a0, .int .i64 a1, .int .i64 a2, .int .i64 a3, .slice sA sl sc] 34)
  have N1 := N0.alloc (.cells #[.int .i64 e0, .int .i64 e1, .int .i64 e2, .int .i64 e3, .int .i64 e4, .int .i64 e5, .int .i64 e6, .int .i64 e7, .int .i64 e8, .int .i64 e9, .int .i64 a0, .int .i64 a1, .int .i64 a2, .int .i64 a3, .slice sA sl sc] 34)
  obtain ⟨H, hH⟩ : ∃ H, w.heap.size = H := ⟨_, rfl⟩
  rw [hH] at HB1 HO1
  try rw [hH]
  have HH := Lib.hid hH
  clear hH
  generalize w.alloc (.cells #[.int .i64 e0, .int .i64 e1, .int .i64 e2, .int .i64 e3, .int .i64 e4, .int .i64 e5, .int .i64 e6, .int .i64 e7, .int .i64 e8, .int .i64 e9, .int .i64 a0, .int .i64 a1, .int .i64 a2, .int .i64 a3, .slice sA sl sc] 34) = w1 at HB1 h1 N1 ⊢
  replace HB1 := Lib.hid HB1
  replace HO1 := Lib.hid HO1
  clear h0 N0
  have q0 := h1.v3
  have q1 := (cellB HB1.out 11 _ rfl : w1.cell? ⟨H, 11, none⟩ = some (.int .i64 a1))
  have q2 := fun y => (h1.drewN y).lxK hmx wfi
  have q3 := h1.drew.lxK hmx wfi
  have q4 := h1.lxK hmx wfi
  go_quiet (fail)
  have h2 := h1.drewN nq
  have N2 := N1.drewN nq
  clear q0 q1 q2 q3 q4
  have HB2 : Hid ((w1.drewN nq).heap[H]? = some (.cells #[.int .i64 e0, .int .i64 e1, .int .i64 e2, .int .i64 e3, .int .i64 e4, .int .i64 e5, .int .i64 e6, .int .i64 e7, .int .i64 e8, .int .i64 e9, .int .i64 a0, .int .i64 a1, .int .i64 a2, .int .i64 a3, .slice sA sl sc] 34 (0, 0))) := HB1
  have HO2 := HO1
  clear HB1 HO1
  generalize w1.drewN nq = w2 at h2 N2 HB2 ⊢
  clear h1 N1
  go_wp2_with fail
  have q5 := (cellB HB2.out 1 _ rfl : w2.cell? ⟨H, 1, none⟩ = some (.int .i64 e1))
  have q6 := h2.b4 hb
  have q7 := h2.b1 hb
  go_quiet (fail)
  have h3 := h2.drewN nq
  have N3 := N2.drewN nq
  clear q5 q6 q7
  have HB3 : Hid ((w2.drewN nq).heap[H]? = some (.cells #[.int .i64 e0, .int .i64 e1, .int .i64 e2, .int .i64 e3, .int .i64 e4, .int .i64 e5, .int .i64 e6, .int .i64 e7, .int .i64 e8, .int .i64 e9, .int .i64 a0, .int .i64 a1, .int .i64 a2, .int .i64 a3, .slice sA sl sc] 34 (0, 0))) := HB2
  have HO3 := HO2
  clear HB2 HO2
  generalize w2.drewN nq = w3 at h3 N3 HB3 ⊢
  clear h2 N2
  go_wp2
  go_ret2
  exact ⟨rfl, _, h3, N3⟩

set_option maxRecDepth 100000 in
set_option maxHeartbeats 1600000 in
theorem c_begin3 {w : World} {own : Nat → Option Tag} {y : Lay} {s : Vs} {W : Wd} {N : Nat} (h : Cor w own y s) (S : Sim s W N) {e0 e1 e2 e3 e4 e5 e6 e7 e8 e9 a0 a1 a2 a3 : Int} {sA : Option Addr} {sl sc : Nat} (wfi : (KL a1).wf = true) {b : Bv} (e : fnd W.L a1 = some b) (hbu : b.busy = false) (hbf : b.fn = e1) : Calls Try.prog 26 #[ptr y.v, .agg #[.int .i64 e0, .int .i64 e1, .int .i64 e2, .int .i64 e3, .int .i64 e4, .int .i64 e5, .int .i64 e6, .int .i64 e7, .int .i64 e8, .int .i64 e9, .int .i64 a0, .int .i64 a1, .int .i64 a2, .int .i64 a3, .slice sA sl sc]] w fun e w' => e = .returned (.tuple #[ptr (y.bx a1), .bool true]) ∧ To w own y (s.setB (setBusy b)) w' := by
  subst hbf
  have N0 := Nx.refl w own
  have h0 := h
  clear h
  obtain ⟨g, p, hb, hid, hmx, hg, hp, hon, hpos, hbo⟩ := S.box e
  clear hon hbo hg hp hpos
  have HID := Lib.hid hid
  clear hid
  go_enter Try.func26, Try.ntmps26
  go_wp2_with fail
  have HB1 := heap_alloc_new w (.cells #[.int .i64 e0, .int .i64 b.fn, .int .i64 e2, .int .i64 e3, .int .i64 e4, .int .i64 e5, .int .i64 e6, .int .i64 e7, .int .i64 e8, .int .i64 e9, .int .i64 a0, .int .i64 a1, .int .i64 a2, .int .i64 a3, .slice sA sl sc] 34)
  have HO1 := h0.fresh (Nat.le_refl w.heap.size)
  have h1 := h0.alloc (.cells #[.int .i64 e0, .int .i64 b.fn, .int .i64 e2, .int .i64 e3, .int .i64 e4, .int .i64 e5, .int .i64 e6, .int .i64 e7, .int .i64 e8, .int .i64 e9, .int .i64 a0, .int .i64 a1, .int .i64 a2, .int .i64 a3, .slice sA sl sc] 34)
  have N1 := N0.alloc (.cells #[.int .i64 e0, .int .i64 b.fn, .int .i64 e2, .int .i64 e3, .int .i64 e4, .int .i64 e5, .int .i64 e6, .int .i64 e7, .int .i64 e8, .int .i64 e9, .int .i64 a0, .int .i64 a1, .int .i64 a2, .int .i64 a3, .slice sA sl sc] 34)
  obtain ⟨H, hH⟩ : ∃ H, w.heap.size = H := ⟨_, rfl⟩
  rw [hH] at HB1 HO1
  try rw [hH]
  have HH := Lib.hid hH
  clear hH
  generalize w.alloc (.cells #[.int .i64 e0, .int .i64 b.fn, .int .i64 e2, .int .i64 e3, .int .i64 e4, .int .i64 e5, .int .i64 e6, .int .i64 e7, .int .i64 e8, .int .i64 e9, .int .i64 a0, .int .i64 a1, .int .i64 a2, .int .i64 a3, .slice sA sl sc] 34) = w1 at HB1 h1 N1 ⊢
  replace HB1 := Lib.hid HB1
  replace HO1 := Lib.hid HO1
  clear h0 N0
  have q0 := h1.v3
  have q1 := (cellB HB1.out 11 _ rfl : w1.cell? ⟨H, 11, none⟩ = some (.int .i64 a1))
  have q2 := fun y => (h1.drewN y).lxK hmx wfi
  have q3 := h1.drew.lxK hmx wfi
  have q4 := h1.lxK hmx wfi
  go_quiet (fail)
  have h2 := h1.drewN nq
  have N2 := N1.drewN nq
  clear q0 q1 q2 q3 q4
  have HB2 : Hid ((w1.drewN nq).heap[H]? = some (.cells #[.int .i64 e0, .int .i64 b.fn, .int .i64 e2, .int .i64 e3, .int .i64 e4, .int .i64 e5, .int .i64 e6, .int .i64 e7, .int .i64 e8, .int .i64 e9, .int .i64 a0, .int .i64 a1, .int .i64 a2, .int .i64 a3, .slice sA sl sc] 34 (0, 0))) := HB1
  have HO2 := HO1
  clear HB1 HO1
  generalize w1.drewN nq = w2 at h2 N2 HB2 ⊢
  clear h1 N1
  go_wp2_with fail
  have q5 := (cellB HB2.out 1 _ rfl : w2.cell? ⟨H, 1, none⟩ = some (.int .i64 b.fn))
  have q6 := h2.b4 hb
  have q7 := h2.b1 hb
  go_quiet (fail)
  have h3 := h2.drewN nq
  have N3 := N2.drewN nq
  clear q5 q6 q7
  have HB3 : Hid ((w2.drewN nq).heap[H]? = some (.cells #[.int .i64 e0, .int .i64 b.fn, .int .i64 e2, .int .i64 e3, .int .i64 e4, .int .i64 e5, .int .i64 e6, .int .i64 e7, .int .i64 e8, .int .i64 e9, .int .i64 a0, .int .i64 a1, .int .i64 a2, .int .i64 a3, .slice sA sl sc] 34 (0, 0))) := HB2
  have HO3 := HO2
  clear HB2 HO2
  generalize w2.drewN nq = w3 at h3 N3 HB3 ⊢
  clear h2 N2
  clear HB3 HO3
  have hr := ((h3.ob (.bx a1)) _ hb).2
  go_wp2_with (with_reducible refine wpList_store_boolin rfl 4 (.tmp 39) (.const (.bool true)) rfl (by kernel_rfl) (y.bx a1) 4 rfl true rfl _ _ hr (by simp) ?_; intro w4 m4 g4)
  go_ret2
  have hid := HID.out
  subst hid
  obtain ⟨h4, n4⟩ := Cor.bx (b := setBusy b) h3 hb m4.out g4
  exact ⟨rfl, _, h4, N3.trans n4⟩

set_option maxRecDepth 100000 in
set_option maxHeartbeats 1600000 in
theorem c_tend0 {w : World} {own : Nat → Option Tag} {y : Lay} {s : Vs} {W : Wd} {N : Nat} (h : Cor w own y s) (S : Sim s W N) {e0 e1 e2 e3 e4 e5 e6 e7 e8 e9 : Int} (wfi : (KL e1).wf = true) (hmx : s.mx.a e1 = none) : Calls Try.prog 30 #[ptr y.v, .agg #[.int .i64 e0, .int .i64 e1, .int .i64 e2, .int .i64 e3, .int .i64 e4, .int .i64 e5, .int .i64 e6, .int .i64 e7, .int .i64 e8, .int .i64 e9]] w (Res w own y.v (N + 2) none) := by
  have N0 := Nx.refl w own
  have h0 := h
  clear h
  go_enter Try.func30, Try.ntmps30
  go_wp2_with fail
  have HB1 := heap_alloc_new w (.cells #[.int .i64 e0, .int .i64 e1, .int .i64 e2, .int .i64 e3, .int .i64 e4, .int .i64 e5, .int .i64 e6, .int .i64 e7, .int .i64 e8, .int .i64 e9] 26)
  have HO1 := h0.fresh (Nat.le_refl w.heap.size)
  have h1 := h0.alloc (.cells #[.int .i64 e0, .int .i64 e1, .int .i64 e2, .int .i64 e3, .int .i64 e4, .int .i64 e5, .int .i64 e6, .int .i64 e7, .int .i64 e8, .int .i64 e9] 26)
  have N1 := N0.alloc (.cells #[.int .i64 e0, .int .i64 e1, .int .i64 e2, .int .i64 e3, .int .i64 e4, .int .i64 e5, .int .i64 e6, .int .i64 e7, .int .i64 e8, .int .i64 e9] 26)
  obtain ⟨H, hH⟩ : ∃ H, w.heap.size = H := ⟨_, rfl⟩
  rw [hH] at HB1 HO1
  try rw [hH]
  have HH := Lib.hid hH
  clear hH
  generalize w.alloc (.cells #[.int .i64 e0, .int .i64 e1, .int .i64 e2, .int .i64 e3, .int .i64 e4, .int .i64 e5, .int .i64 e6, .int .i64 e7, .int .i64 e8, .int .i64 e9] 26) = w1 at HB1 h1 N1 ⊢
  replace HB1 := Lib.hid HB1
  replace HO1 := Lib.hid HO1
  clear h0 N0
  have q0 := h1.v3
  have q1 := (cellB HB1.out 1 _ rfl : w1.cell? ⟨H, 1, none⟩ = some (.int .i64 e1))
  have q2 := fun y => (h1.drewN y).lxN hmx wfi
  have q3 := h1.drew.lxN hmx wfi
  have q4 := h1.lxN hmx wfi
  go_quiet (fail)
  have h2 := h1.drewN nq
  have N2 := N1.drewN nq
  clear q0 q1 q2 q3 q4
  have HB2 : Hid ((w1.drewN nq).heap[H]? = some (.cells #[.int .i64 e0, .int .i64 e1, .int .i64 e2, .int .i64 e3, .int .i64 e4, .int .i64 e5, .int .i64 e6, .int .i64 e7, .int .i64 e8, .int .i64 e9] 26 (0, 0))) := HB1
  have HO2 := HO1
  clear HB1 HO1
  generalize w1.drewN nq = w2 at h2 N2 HB2 ⊢
  clear h1 N1
  go_wp2
  go_ret
  exact Res.no rfl rfl N2

set_option maxRecDepth 100000 in
set_option maxHeartbeats 1600000 in
theorem c_tend8 {w : World} {own : Nat → Option Tag} {y : Lay} {s : Vs} {W : Wd} {N : Nat} (h : Cor w own y s) (S : Sim s W N) (hN : N < 1048576) {e1 e2 e3 e4 e5 e6 e7 e8 e9 : Int} (wfi : (KL e1).wf = true) {b : Bv} (e : fnd W.L e1 = some b) : Calls Try.prog 30 #[ptr y.v, .agg #[.int .i64 8, .int .i64 e1, .int .i64 e2, .int .i64 e3, .int .i64 e4, .int .i64 e5, .int .i64 e6, .int .i64 e7, .int .i64 e8, .int .i64 e9]] w (Res w own y.v N (some { W with L := drp W.L e1 })) := by
  have N0 := Nx.refl w own
  have h0 := h
  clear h
  obtain ⟨g, p, hb, hid, hmx, hg, hp, hon, hpos, hbo⟩ := S.box e
  clear hon hbo hg hp hpos
  have HID := Lib.hid hid
  clear hid
  go_enter Try.func30, Try.ntmps30
  go_wp2_with fail
  have HB1 := heap_alloc_new w (.cells #[.int .i64 8, .int .i64 e1, .int .i64 e2, .int .i64 e3, .int .i64 e4, .int .i64 e5, .int .i64 e6, .int .i64 e7, .int .i64 e8, .int .i64 e9] 26)
  have HO1 := h0.fresh (Nat.le_refl w.heap.size)
  have h1 := h0.alloc (.cells #[.int .i64 8, .int .i64 e1, .int .i64 e2, .int .i64 e3, .int .i64 e4, .int .i64 e5, .int .i64 e6, .int .i64 e7, .int .i64 e8, .int .i64 e9] 26)
  have N1 := N0.alloc (.cells #[.int .i64 8, .int .i64 e1, .int .i64 e2, .int .i64 e3, .int .i64 e4, .int .i64 e5, .int .i64 e6, .int .i64 e7, .int .i64 e8, .int .i64 e9] 26)
  obtain ⟨H, hH⟩ : ∃ H, w.heap.size = H := ⟨_, rfl⟩
  rw [hH] at HB1 HO1
  try rw [hH]
  have HH := Lib.hid hH
  clear hH
  generalize w.alloc (.cells #[.int .i64 8, .int .i64 e1, .int .i64 e2, .int .i64 e3, .int .i64 e4, .int .i64 e5, .int .i64 e6, .int .i64 e7, .int .i64 e8, .int .i64 e9] 26) = w1 at HB1 h1 N1 ⊢
  replace HB1 := Lib.hid HB1
  replace HO1 := Lib.hid HO1
  clear h0 N0
  have q0 := h1.v3
  have q1 := (cellB HB1.out 1 _ rfl : w1.cell? ⟨H, 1, none⟩ = some (.int .i64 e1))
  have q2 := fun y => (h1.drewN y).lxK hmx wfi
  have q3 := h1.drew.lxK hmx wfi
  have q4 := h1.lxK hmx wfi
  go_quiet (fail)
  have h2 := h1.drewN nq
  have N2 := N1.drewN nq
  clear q0 q1 q2 q3 q4
  have HB2 : Hid ((w1.drewN nq).heap[H]? = some (.cells #[.int .i64 8, .int .i64 e1, .int .i64 e2, .int .i64 e3, .int .i64 e4, .int .i64 e5, .int .i64 e6, .int .i64 e7, .int .i64 e8, .int .i64 e9] 26 (0, 0))) := HB1
  have HO2 := HO1
  clear HB1 HO1
  generalize w1.drewN nq = w2 at h2 N2 HB2 ⊢
  clear h1 N1
  have q5 := (cellB HB2.out 0 _ rfl : w2.cell? ⟨H, 0, none⟩ = some (.int .i64 8))
  go_wp2_with fail
  refine (c_dropS h2 S hN e).mono ?_
  rintro e2 w3 ⟨rfl, o3, s1, h3, n3, S1, _⟩
  have N3 := N2.trans n3
  go_wp2
  go_ret
  exact Res.yes rfl rfl rfl N3 h3 S1

set_option maxRecDepth 100000 in
set_option maxHeartbeats 1600000 in
theorem c_tend7n {w : World} {own : Nat → Option Tag} {y : Lay} {s : Vs} {W : Wd} {N : Nat} (h : Cor w own y s) (S : Sim s W N) {e1 e2 e3 e4 e5 e6 e7 e8 e9 : Int} (wfi : (KL e1).wf = true) {b : Bv} (e : fnd W.L e1 = some b) (hbo1 : b.boots = false) : Calls Try.prog 30 #[ptr y.v, .agg #[.int .i64 7, .int .i64 e1, .int .i64 e2, .int .i64 e3, .int .i64 e4, .int .i64 e5, .int .i64 e6, .int .i64 e7, .int .i64 e8, .int .i64 e9]] w (Res w own y.v (N + 2) none) := by
  have N0 := Nx.refl w own
  have h0 := h
  clear h
  obtain ⟨g, p, hb, hid, hmx, hg, hp, hon, hpos, hbo⟩ := S.box e
  clear hon hbo hg hp hpos
  have HID := Lib.hid hid
  clear hid
  go_enter Try.func30, Try.ntmps30
  go_wp2_with fail
  have HB1 := heap_alloc_new w (.cells #[.int .i64 7, .int .i64 e1, .int .i64 e2, .int .i64 e3, .int .i64 e4, .int .i64 e5, .int .i64 e6, .int .i64 e7, .int .i64 e8, .int .i64 e9] 26)
  have HO1 := h0.fresh (Nat.le_refl w.heap.size)
  have h1 := h0.alloc (.cells #[.int .i64 7, .int .i64 e1, .int .i64 e2, .int .i64 e3, .int .i64 e4, .int .i64 e5, .int .i64 e6, .int .i64 e7, .int .i64 e8, .int .i64 e9] 26)
  have N1 := N0.alloc (.cells #[.int .i64 7, .int .i64 e1, .int .i64 e2, .int .i64 e3, .int .i64 e4, .int .i64 e5, .int .i64 e6, .int .i64 e7, .int .i64 e8, .int .i64 e9] 26)
  obtain ⟨H, hH⟩ : ∃ H, w.heap.size = H := ⟨_, rfl⟩
  rw [hH] at HB1 HO1
  try rw [hH]
  have HH := Lib.hid hH
  clear hH
  generalize w.alloc (.cells #[.int .i64 7, .int .i64 e1, .int .i64 e2, .int .i64 e3, .int .i64 e4, .int .i64 e5, .int .i64 e6, .int .i64 e7, .int .i64 e8, .int .i64 e9] 26) = w1 at HB1 h1 N1 ⊢
  replace HB1 := Lib.hid HB1
  replace HO1 := Lib.hid HO1
  clear h0 N0
  have q0 := h1.v3
  have q1 := (cellB HB1.out 1 _ rfl : w1.cell? ⟨H, 1, none⟩ = some (.int .i64 e1))
  have q2 := fun y => (h1.drewN y).lxK hmx wfi
  have q3 := h1.drew.lxK hmx wfi
  have q4 := h1.lxK hmx wfi
  go_quiet (fail)
  have h2 := h1.drewN nq
  have N2 := N1.drewN nq
  clear q0 q1 q2 q3 q4
  have HB2 : Hid ((w1.drewN nq).heap[H]? = some (.cells #[.int .i64 7, .int .i64 e1, .int .i64 e2, .int .i64 e3, .int .i64 e4, .int .i64 e5, .int .i64 e6, .int .i64 e7, .int .i64 e8, .int .i64 e9] 26 (0, 0))) := HB1
  have HO2 := HO1
  clear HB1 HO1
  generalize w1.drewN nq = w2 at h2 N2 HB2 ⊢
  clear h1 N1
  have q5 := (cellB HB2.out 0 _ rfl : w2.cell? ⟨H, 0, none⟩ = some (.int .i64 7))
  have q6 := h2.b3 hb
  have q7 := h2.b4 hb
  have hr := ((h2.ob (.bx e1)) _ hb).2
  go_wp2_with (with_reducible refine wpList_store_boolin rfl 4 (.tmp 29) (.const (.bool false)) rfl (by kernel_rfl) (y.bx e1) 3 rfl false rfl _ _ hr (by simp) ?_; intro w3 m3 g3)
  go_ret
  have hid := HID.out
  subst hid
  obtain ⟨h3, n3⟩ := Cor.bx (b := setBoots b) h2 hb m3.out g3
  exact Res.no rfl (by simp [hbo1]) (N2.trans n3)

set_option maxRecDepth 100000 in
set_option maxHeartbeats 1600000 in
theorem c_tend7y {w : World} {own : Nat → Option Tag} {y : Lay} {s : Vs} {W : Wd} {N : Nat} (h : Cor w own y s) (S : Sim s W N) {e1 e2 e3 e4 e5 e6 e7 e8 e9 : Int} (wfi : (KL e1).wf = true) {b : Bv} (e : fnd W.L e1 = some b) (hbo1 : b.boots = true) : Calls Try.prog 30 #[ptr y.v, .agg #[.int .i64 7, .int .i64 e1, .int .i64 e2, .int .i64 e3, .int .i64 e4, .int .i64 e5, .int .i64 e6, .int .i64 e7, .int .i64 e8, .int .i64 e9]] w (Res w own y.v N (some { W with L := up1 setBoots e1 W.L })) := by
  have N0 := Nx.refl w own
  have h0 := h
  clear h
  obtain ⟨g, p, hb, hid, hmx, hg, hp, hon, hpos, hbo⟩ := S.box e
  clear hon hbo hg hp hpos
  have HID := Lib.hid hid
  clear hid
  go_enter Try.func30, Try.ntmps30
  go_wp2_with fail
  have HB1 := heap_alloc_new w (.cells #[.int .i64 7, .int .i64 e1, .int .i64 e2, .int .i64 e3, .int .i64 e4, .int .i64 e5, .int .i64 e6, .int .i64 e7, .int .i64 e8, .int .i64 e9] 26)
  have HO1 := h0.fresh (Nat.le_refl w.heap.size)
  have h1 := h0.alloc (.cells #[.int .i64 7, .int .i64 e1, .int .i64 e2, .int .i64 e3, .int .i64 e4, .int .i64 e5, .int .i64 e6, .int .i64 e7, .int .i64 e8, .int .i64 e9] 26)
  have N1 := N0.alloc (.cells #[.int .i64 7, .int .i64 e1, .int .i64 e2, .int .i64 e3, .int .i64 e4, .int .i64 e5, .int .i64 e6, .int .i64 e7, .int .i64 e8, .int .i64 e9] 26)
  obtain ⟨H, hH⟩ : ∃ H, w.heap.size = H := ⟨_, rfl⟩
  rw [hH] at HB1 HO1
  try rw [hH]
  have HH := Lib.hid hH
  clear hH
  generalize w.alloc (.cells #[.int .i64 7, .int .i64 e1, .int .i64 e2, .int .i64 e3, .int .i64 e4, .int .i64 e5, .int .i64 e6, .int .i64 e7, .int .i64 e8, .int .i64 e9] 26) = w1 at HB1 h1 N1 ⊢
  replace HB1 := Lib.hid HB1
  replace HO1 := Lib.hid HO1
  clear h0 N0
  have q0 := h1.v3
  have q1 := (cellB HB1.out 1 _ rfl : w1.cell? ⟨H, 1, none⟩ = some (.int .i64 e1))
  have q2 := fun y => (h1.drewN y).lxK hmx wfi
  have q3 := h1.drew.lxK hmx wfi
  have q4 := h1.lxK hmx wfi
  go_quiet (fail)
  have h2 := h1.drewN nq
  have N2 := N1.drewN nq
  clear q0 q1 q2 q3 q4
  have HB2 : Hid ((w1.drewN nq).heap[H]? = some (.cells #[.int .i64 7, .int .i64 e1, .int .i64 e2, .int .i64 e3, .int .i64 e4, .int .i64 e5, .int .i64 e6, .int .i64 e7, .int .i64 e8, .int .i64 e9] 26 (0, 0))) := HB1
  have HO2 := HO1
  clear HB1 HO1
  generalize w1.drewN nq = w2 at h2 N2 HB2 ⊢
  clear h1 N1
  have q5 := (cellB HB2.out 0 _ rfl : w2.cell? ⟨H, 0, none⟩ = some (.int .i64 7))
  have q6 := h2.b3 hb
  have q7 := h2.b4 hb
  have hr := ((h2.ob (.bx e1)) _ hb).2
  go_wp2_with (with_reducible refine wpList_store_boolin rfl 4 (.tmp 29) (.const (.bool false)) rfl (by kernel_rfl) (y.bx e1) 3 rfl false rfl _ _ hr (by simp) ?_; intro w3 m3 g3)
  go_ret
  have hid := HID.out
  subst hid
  obtain ⟨h3, n3⟩ := Cor.bx (b := setBoots b) h2 hb m3.out g3
  exact Res.yes rfl (by simp [hbo1]) rfl (N2.trans n3) h3 (S.turn e (f := setBoots) (fun _ => rfl) (fun _ => rfl) (fun _ => rfl))

set_option maxRecDepth 100000 in
set_option maxHeartbeats 1600000 in
theorem c_tend9a {w : World} {own : Nat → Option Tag} {y : Lay} {s : Vs} {W : Wd} {N : Nat} (h : Cor w own y s) (S : Sim s W N) {e1 e2 e3 e4 e5 e6 e7 e8 e9 : Int} (wfi : (KL e1).wf = true) {b : Bv} (e : fnd W.L e1 = some b) (hbo1 : b.busy = false) : Calls Try.prog 30 #[ptr y.v, .agg #[.int .i64 9, .int .i64 e1, .int .i64 e2, .int .i64 e3, .int .i64 e4, .int .i64 e5, .int .i64 e6, .int .i64 e7, .int .i64 e8, .int .i64 e9]] w (Res w own y.v (N + 2) none) := by
  have N0 := Nx.refl w own
  have h0 := h
  clear h
  obtain ⟨g, p, hb, hid, hmx, hg, hp, hon, hpos, hbo⟩ := S.box e
  clear hon hbo hg hp hpos
  have HID := Lib.hid hid
  clear hid
  go_enter Try.func30, Try.ntmps30
  go_wp2_with fail
  have HB1 := heap_alloc_new w (.cells #[.int .i64 9, .int .i64 e1, .int .i64 e2, .int .i64 e3, .int .i64 e4, .int .i64 e5, .int .i64 e6, .int .i64 e7, .int .i64 e8, .int .i64 e9] 26)
  have HO1 := h0.fresh (Nat.le_refl w.heap.size)
  have h1 := h0.alloc (.cells #[.int .i64 9, .int .i64 e1, .int .i64 e2, .int .i64 e3, .int .i64 e4, .int .i64 e5, .int .i64 e6, .int .i64 e7, .int .i64 e8, .int .i64 e9] 26)
  have N1 := N0.alloc (.cells #[.int .i64 9, .int .i64 e1, .int .i64 e2, .int .i64 e3, .int .i64 e4, .int .i64 e5, .int .i64 e6, .int .i64 e7, .int .i64 e8, .int .i64 e9] 26)
  obtain ⟨H, hH⟩ : ∃ H, w.heap.size = H := ⟨_, rfl⟩
  rw [hH] at HB1 HO1
  try rw [hH]
  have HH := Lib.hid hH
  clear hH
  generalize w.alloc (.cells #[.int .i64 9, .int .i64 e1, .int .i64 e2, .int .i64 e3, .int .i64 e4, .int .i64 e5, .int .i64 e6, .int .i64 e7, .int .i64 e8, .int .i64 e9] 26) = w1 at HB1 h1 N1 ⊢
  replace HB1 := Lib.hid HB1
  replace HO1 := Lib.hid HO1
  clear h0 N0
  have q0 := h1.v3
  have q1 := (cellB HB1.out 1 _ rfl : w1.cell? ⟨H, 1, none⟩ = some (.int .i64 e1))
  have q2 := fun y => (h1.drewN y).lxK hmx wfi
  have q3 := h1.drew.lxK hmx wfi
  have q4 := h1.lxK hmx wfi
  go_quiet (fail)
  have h2 := h1.drewN nq
  have N2 := N1.drewN nq
  clear q0 q1 q2 q3 q4
  have HB2 : Hid ((w1.drewN nq).heap[H]? = some (.cells #[.int .i64 9, .int .i64 e1, .int .i64 e2, .int .i64 e3, .int .i64 e4, .int .i64 e5, .int .i64 e6, .int .i64 e7, .int .i64 e8, .int .i64 e9] 26 (0, 0))) := HB1
  have HO2 := HO1
  clear HB1 HO1
  generalize w1.drewN nq = w2 at h2 N2 HB2 ⊢
  clear h1 N1
  have q5 := (cellB HB2.out 0 _ rfl : w2.cell? ⟨H, 0, none⟩ = some (.int .i64 9))
  have q6 := h2.b3 hb
  have q7 := h2.b4 hb
  have hr := ((h2.ob (.bx e1)) _ hb).2
  go_wp2_with (with_reducible refine wpList_store_boolin rfl 4 (.tmp 45) (.const (.bool false)) rfl (by kernel_rfl) (y.bx e1) 4 rfl false rfl _ _ hr (by simp) ?_; intro w3 m3 g3)
  go_ret
  have hid := HID.out
  subst hid
  obtain ⟨h3, n3⟩ := Cor.bx (b := setFree b) h2 hb m3.out g3
  exact Res.no rfl (by simp [hbo1]) (N2.trans n3)

set_option maxRecDepth 100000 in
set_option maxHeartbeats 1600000 in
theorem c_tend9b {w : World} {own : Nat → Option Tag} {y : Lay} {s : Vs} {W : Wd} {N : Nat} (h : Cor w own y s) (S : Sim s W N) {e1 e2 e3 e4 e5 e6 e7 e8 e9 : Int} (wfi : (KL e1).wf = true) {b : Bv} (e : fnd W.L e1 = some b) (hbo0 : b.busy = true) (hbo1 : b.boots = true) : Calls Try.prog 30 #[ptr y.v, .agg #[.int .i64 9, .int .i64 e1, .int .i64 e2, .int .i64 e3, .int .i64 e4, .int .i64 e5, .int .i64 e6, .int .i64 e7, .int .i64 e8, .int .i64 e9]] w (Res w own y.v (N + 2) none) := by
  have N0 := Nx.refl w own
  have h0 := h
  clear h
  obtain ⟨g, p, hb, hid, hmx, hg, hp, hon, hpos, hbo⟩ := S.box e
  clear hon hbo hg hp hpos
  have HID := Lib.hid hid
  clear hid
  go_enter Try.func30, Try.ntmps30
  go_wp2_with fail
  have HB1 := heap_alloc_new w (.cells #[.int .i64 9, .int .i64 e1, .int .i64 e2, .int .i64 e3, .int .i64 e4, .int .i64 e5, .int .i64 e6, .int .i64 e7, .int .i64 e8, .int .i64 e9] 26)
  have HO1 := h0.fresh (Nat.le_refl w.heap.size)
  have h1 := h0.alloc (.cells #[.int .i64 9, .int .i64 e1, .int .i64 e2, .int .i64 e3, .int .i64 e4, .int .i64 e5, .int .i64 e6, .int .i64 e7, .int .i64 e8, .int .i64 e9] 26)
  have N1 := N0.alloc (.cells #[.int .i64 9, .int .i64 e1, .int .i64 e2, .int .i64 e3, .int .i64 e4, .int .i64 e5, .int .i64 e6, .int .i64 e7, .int .i64 e8, .int .i64 e9] 26)
  obtain ⟨H, hH⟩ : ∃ H, w.heap.size = H := ⟨_, rfl⟩
  rw [hH] at HB1 HO1
  try rw [hH]
  have HH := Lib.hid hH
  clear hH
  generalize w.alloc (.cells #[.int .i64 9, .int .i64 e1, .int .i64 e2, .int .i64 e3, .int .i64 e4, .int .i64 e5, .int .i64 e6, .int .i64 e7, .int .i64 e8, .int .i64 e9] 26) = w1 at HB1 h1 N1 ⊢
  replace HB1 := Lib.hid HB1
  replace HO1 := Lib.hid HO1
  clear h0 N0
  have q0 := h1.v3
  have q1 := (cellB HB1.out 1 _ rfl : w1.cell? ⟨H, 1, none⟩ = some (.int .i64 e1))
  have q2 := fun y => (h1.drewN y).lxK hmx wfi
  have q3 := h1.drew.lxK hmx wfi
  have q4 := h1.lxK hmx wfi
  go_quiet (fail)
  have h2 := h1.drewN nq
  have N2 := N1.drewN nq
  clear q0 q1 q2 q3 q4
  have HB2 : Hid ((w1.drewN nq).heap[H]? = some (.cells #[.int .i64 9, .int .i64 e1, .int .i64 e2, .int .i64 e3, .int .i64 e4, .int .i64 e5, .int .i64 e6, .int .i64 e7, .int .i64 e8, .int .i64 e9] 26 (0, 0))) := HB1
  have HO2 := HO1
  clear HB1 HO1
  generalize w1.drewN nq = w2 at h2 N2 HB2 ⊢
  clear h1 N1
  have q5 := (cellB HB2.out 0 _ rfl : w2.cell? ⟨H, 0, none⟩ = some (.int .i64 9))
  have q6 := h2.b3 hb
  have q7 := h2.b4 hb
  have hr := ((h2.ob (.bx e1)) _ hb).2
  go_wp2_with (with_reducible refine wpList_store_boolin rfl 4 (.tmp 45) (.const (.bool false)) rfl (by kernel_rfl) (y.bx e1) 4 rfl false rfl _ _ hr (by simp) ?_; intro w3 m3 g3)
  go_ret
  have hid := HID.out
  subst hid
  obtain ⟨h3, n3⟩ := Cor.bx (b := setFree b) h2 hb m3.out g3
  exact Res.no rfl (by simp [hbo1]) (N2.trans n3)

set_option maxRecDepth 100000 in
set_option maxHeartbeats 1600000 in
theorem c_tend9y {w : World} {own : Nat → Option Tag} {y : Lay} {s : Vs} {W : Wd} {N : Nat} (h : Cor w own y s) (S : Sim s W N) {e1 e2 e3 e4 e5 e6 e7 e8 e9 : Int} (wfi : (KL e1).wf = true) {b : Bv} (e : fnd W.L e1 = some b) (hbo1 : b.busy = true) (hbo2 : b.boots = false) : Calls Try.prog 30 #[ptr y.v, .agg #[.int .i64 9, .int .i64 e1, .int .i64 e2, .int .i64 e3, .int .i64 e4, .int .i64 e5, .int .i64 e6, .int .i64 e7, .int .i64 e8, .int .i64 e9]] w (Res w own y.v N (some { W with L := up1 setFree e1 W.L })) := by
  have N0 := Nx.refl w own
  have h0 := h
  clear h
  obtain ⟨g, p, hb, hid, hmx, hg, hp, hon, hpos, hbo⟩ := S.box e
  clear hon hbo hg hp hpos
  have HID := Lib.hid hid
  clear hid
  go_enter Try.func30, Try.ntmps30
  go_wp2_with fail
  have HB1 := heap_alloc_new w (.cells #[.int .i64 9, .int .i64 e1, .int .i64 e2, .int .i64 e3, .int .i64 e4, .int .i64 e5, .int .i64 e6, .int .i64 e7, .int .i64 e8, .int .i64 e9] 26)
  have HO1 := h0.fresh (Nat.le_refl w.heap.size)
  have h1 := h0.alloc (.cells #[.int .i64 9, .int .i64 e1, .int .i64 e2, .int .i64 e3, .int .i64 e4, .int .i64 e5, .int .i64 e6, .int .i64 e7, .int .i64 e8, .int .i64 e9] 26)
  have N1 := N0.alloc (.cells #[.int .i64 9, .int .i64 e1, .int .i64 e2, .int .i64 e3, .int .i64 e4, .int .i64 e5, .int .i64 e6, .int .i64 e7, .int .i64 e8, .int .i64 e9] 26)
  obtain ⟨H, hH⟩ : ∃ H, w.heap.size = H := ⟨_, rfl⟩
  rw [hH] at HB1 HO1
  try rw [hH]
  have HH := Lib.hid hH
  clear hH
  generalize w.alloc (.cells #[.int .i64 9, .int .i64 e1, .int .i64 e2, .int .i64 e3, .int .i64 e4, .int .i64 e5, .int .i64 e6, .int .i64 e7, .int .i64 e8, .int .i64 e9] 26) = w1 at HB1 h1 N1 ⊢
  replace HB1 := Lib.hid HB1
  replace HO1 := Lib.hid HO1
  clear h0 N0
  have q0 := h1.v3
  have q1 := (cellB HB1.out 1 _ rfl : w1.cell? ⟨H, 1, none⟩ = some (.int .i64 e1))
  have q2 := fun y => (h1.drewN y).lxK hmx wfi
  have q3 := h1.drew.lxK hmx wfi
  have q4 := h1.lxK hmx wfi
  go_quiet (fail)
  have h2 := h1.drewN nq
  have N2 := N1.drewN nq
  clear q0 q1 q2 q3 q4
  have HB2 : Hid ((w1.drewN nq).heap[H]? = some (.cells #[.int .i64 9, .int .i64 e1, .int .i64 e2, .int .i64 e3, .int .i64 e4, .int .i64 e5, .int .i64 e6, .int .i64 e7, .int .i64 e8, .int .i64 e9] 26 (0, 0))) := HB1
  have HO2 := HO1
  clear HB1 HO1
  generalize w1.drewN nq = w2 at h2 N2 HB2 ⊢
  clear h1 N1
  have q5 := (cellB HB2.out 0 _ rfl : w2.cell? ⟨H, 0, none⟩ = some (.int .i64 9))
  have q6 := h2.b3 hb
  have q7 := h2.b4 hb
  have hr := ((h2.ob (.bx e1)) _ hb).2
  go_wp2_with (with_reducible refine wpList_store_boolin rfl 4 (.tmp 45) (.const (.bool false)) rfl (by kernel_rfl) (y.bx e1) 4 rfl false rfl _ _ hr (by simp) ?_; intro w3 m3 g3)
  go_ret
  have hid := HID.out
  subst hid
  obtain ⟨h3, n3⟩ := Cor.bx (b := setFree b) h2 hb m3.out g3
  exact Res.yes rfl (by simp [hbo1, hbo2]) rfl (N2.trans n3) h3 (S.turn e (f := setFree) (fun _ => rfl) (fun _ => rfl) (fun _ => rfl))

end Go.Proofs.Ytgpookphacdgoaa.W.U
