/- Package audit: a host, a drop, a boot, a kill, a call's beginning, in words of what is known. -/
import Derived.Test.YtgpookphacdgoaaAuS
namespace Go.Proofs.Ytgpookphacdgoaa.W.U
open Go.RowKit Go.Maps Go.ChangeMaps Go.MapKept Go.Proofs.Ytgpookphacdgoaa.W

theorem cellB {w : World} {H : Nat} {cs : Array Value} {t : TypeId} (h : w.heap[H]? = some (.cells cs t (0, 0))) (j : Nat) (v : Value) (hj : cs[j]? = some v) : w.cell? ⟨H, j, none⟩ = some v := (cell_of_row _ _ j _ _ _ h).trans hj
/-- What a call says that may come to an end: true, and what is known then; or false. -/
def Res (w : World) (own : Nat → Option Tag) (v N : Nat) (r : Option Wd) (e : Ending) (w' : World) : Prop :=
  ∃ own', Nx w own w' own' ∧ ((r = none ∧ e = .returned (.bool false)) ∨ ∃ W' y' s', r = some W' ∧ e = .returned (.bool true) ∧ y'.v = v ∧ Cor w' own' y' s' ∧ Sim s' W' N)
theorem Res.no {w w' : World} {own o' : Nat → Option Tag} {v N : Nat} {r : Option Wd} {e : Ending} (hr : r = none) (he : e = .returned (.bool false)) (h : Nx w own w' o') : Res w own v N r e w' := ⟨o', h, Or.inl ⟨hr, he⟩⟩
theorem Res.yes {w w' : World} {own o' : Nat → Option Tag} {v N : Nat} {r : Option Wd} {e : Ending} {W' : Wd} {y' : Lay} {s' : Vs} (hr : r = some W') (he : e = .returned (.bool true)) (hv : y'.v = v) (h : Nx w own w' o') (hc : Cor w' o' y' s') (hs : Sim s' W' N) : Res w own v N r e w' := ⟨o', h, Or.inr ⟨W', y', s', hr, he, hv, hc, hs⟩⟩
theorem Sim.unused {s : Vs} {W : Wd} {N : Nat} (S : Sim s W N) {i : Int} (h : fnd W.L i = none) : Unused s i := by
  refine ⟨by rw [S.bx]; exact h, ?_, fun h0 p0 e0 => ?_⟩
  · cases q : s.mx.a i with
    | none => rfl
    | some u => have := S.mx i; rw [q, h] at this; cases this
  · cases q : p0.bo.a i with
    | none => rfl
    | some u => obtain ⟨b, hb, _⟩ := (S.bo h0 p0 i e0).1 (by rw [q]; rfl); rw [h] at hb; cases hb
theorem Nx.noB {w w' : World} {o o' : Nat → Option Tag} (h : Nx w o w' o') : Nx w o w' o' := h


set_option maxRecDepth 100000 in
set_option maxHeartbeats 1600000 in
theorem c_hostS {w : World} {own : Nat → Option Tag} {y : Lay} {s : Vs} {W : Wd} {N : Nat} (h : Cor w own y s) (S : Sim s W N) (hN : N < 1048576) {n : Int} (wf : (KL n).wf = true) : Calls Try.prog 27 #[ptr y.v, .int .i64 n] w fun e w' => ∃ own' y' s' x, e = .returned (ptr (y'.hb n)) ∧ Cor w' own' y' s' ∧ Nx w own w' own' ∧ Sim s' W (N + 1) ∧ s'.ho.a n = some x ∧ y'.v = y.v ∧ y'.fb = y.fb ∧ y'.fo = y.fo ∧ s'.fu = s.fu ∧ s'.last = s.last := by
  cases e : s.ho.a n with
  | some x =>
    refine (c_host0 h e wf).mono ?_
    rintro e w' ⟨rfl, rfl⟩
    exact ⟨own, y, s, x, rfl, h, Nx.refl _ _, S.up (Nat.le_succ N), e, rfl, rfl, rfl, rfl, rfl⟩
  | none =>
    refine (c_host1 h e wf (by have := S.nh; omega)).mono ?_
    rintro e' w' ⟨p, m, own', rfl, h1, h2⟩
    exact ⟨own', _, _, _, rfl, h1, h2, S.host e, setH_at _ _ _, rfl, rfl, rfl, rfl, rfl⟩

set_option maxRecDepth 100000 in
set_option maxHeartbeats 1600000 in
theorem c_dropS {w : World} {own : Nat → Option Tag} {y : Lay} {s : Vs} {W : Wd} {N : Nat} (h : Cor w own y s) (S : Sim s W N) (hN : N < 1048576) {i : Int} {b : Bv} (e : fnd W.L i = some b) : Calls Try.prog 34 #[ptr y.v, ptr (y.bx i)] w fun e w' => e = .returned (.tuple #[]) ∧ ∃ own' s', Cor w' own' y s' ∧ Nx w own w' own' ∧ Sim s' { W with L := drp W.L i } N ∧ ∀ x, s.ho.a b.ho = some x → ∃ x', s'.ho.a b.ho = some x' ∧ x'.bo = x.bo.del i ∧ ∀ r c0 left cnt, own r = none → Ri Try.prog 3 w (y.hm b.ho) r (fun z => (x.bo.a z).map (fun _ => ptr (y.bx z))) c0 left cnt → ∃ cnt', cnt' ≤ cnt ∧ ∃ c1, Ri Try.prog 3 w' (y.hm b.ho) r (updZ (fun z => (x.bo.a z).map (fun _ => ptr (y.bx z))) i none) c1 (fun z => left z && !(z == i)) cnt' := by
  obtain ⟨g, x, hb, hi, hmx, hg, hx, hon, hpos, hbo⟩ := S.box e
  obtain ⟨w1, w2, w3⟩ := S.wf (by omega) e
  have hu := S.usB (by omega) hx
  have hm := S.gd.mem _ _ (S.me hg)
  have hno := S.no _ _ hg
  subst hi
  have hl : cnt W.L b.fn b.ho ≤ N := Nat.le_trans (cnt_le_len _ _ _) S.gd.len
  by_cases h1 : cnt W.L b.fn b.ho = 1
  · refine (c_drop1 h hb rfl hg hx w1 w2 w3 (by rw [hon, h1]; rfl) hu.1 (by omega) hm.1 (by omega) (by omega)).mono ?_
    rintro e' w' ⟨rfl, own', h2, h3, h4⟩
    refine ⟨rfl, own', _, h2.noB b.id, h3, ?_, fun x0 hx0 => ?_⟩
    · refine S.drop e hg hx (on := (g.on.set b.ho 0).del b.ho) (fun z => ?_) (Nat.le_trans (Tb.del_n _ _) ?_)
      · rw [Tb.del_get, h1, if_pos rfl]; split
        · rfl
        · rename_i q; rw [Tb.set_get, if_neg q]
      · show (if (g.on.a b.ho).isSome then _ else _) ≤ N
        rw [hon]; exact hno
    · rw [hx] at hx0; cases hx0
      exact ⟨_, setH_at _ _ _, rfl, h4⟩
  · refine (c_dropN h hb rfl hg hx w1 w2 w3 (c := (cnt W.L b.fn b.ho : Int)) (by rw [hon]; rfl) (by omega) (by omega) hu.1 (by omega) hm.1 (by omega) (by omega)).mono ?_
    rintro e' w' ⟨rfl, own', h2, h3, h4⟩
    refine ⟨rfl, own', _, h2.noB b.id, h3, ?_, fun x0 hx0 => ?_⟩
    · refine S.drop e hg hx (on := g.on.set b.ho ((cnt W.L b.fn b.ho : Int) - 1)) (fun z => ?_) ?_
      · rw [Tb.set_get, if_neg h1]
      · show (if (g.on.a b.ho).isSome then _ else _) ≤ N
        rw [hon]; exact hno
    · rw [hx] at hx0; cases hx0
      exact ⟨_, setH_at _ _ _, rfl, h4⟩

set_option maxRecDepth 100000 in
set_option maxHeartbeats 1600000 in
theorem c_boot0 {w : World} {own : Nat → Option Tag} {y : Lay} {s : Vs} {W : Wd} {N : Nat} (h : Cor w own y s) (S : Sim s W N) (hN : N < 1048576) {i f x : Int} (wff : (KL f).wf = true) (hf : s.fu.a f = none) : Calls Try.prog 24 #[ptr y.v, .agg #[.bool true, .int .i64 i, .int .i64 f, .int .i64 x]] w (Res w own y.v (N + 2) none) := by
  have N0 := Nx.refl w own
  have h0 := h
  clear h
  go_enter Try.func24, Try.ntmps24
  go_wp2_with fail
  have HB1 := heap_alloc_new w (.cells #[.bool true, .int .i64 i, .int .i64 f, .int .i64 x] 38)
  have HO1 := h0.fresh (Nat.le_refl w.heap.size)
  have h1 := h0.alloc (.cells #[.bool true, .int .i64 i, .int .i64 f, .int .i64 x] 38)
  have N1 := N0.alloc (.cells #[.bool true, .int .i64 i, .int .i64 f, .int .i64 x] 38)
  obtain ⟨H, hH⟩ : ∃ H, w.heap.size = H := ⟨_, rfl⟩
  rw [hH] at HB1 HO1
  try rw [hH]
  have HH := Lib.hid hH
  clear hH
  generalize w.alloc (.cells #[.bool true, .int .i64 i, .int .i64 f, .int .i64 x] 38) = w1 at HB1 h1 N1 ⊢
  replace HB1 := Lib.hid HB1
  replace HO1 := Lib.hid HO1
  clear h0 N0
  have q0 := h1.v1
  have q1 := (cellB HB1.out 2 _ rfl : w1.cell? ⟨H, 2, none⟩ = some (.int .i64 f))
  have q2 := fun y => (h1.drewN y).lfN hf wff
  have q3 := h1.drew.lfN hf wff
  have q4 := h1.lfN hf wff
  go_quiet (fail)
  have h2 := h1.drewN nq
  have N2 := N1.drewN nq
  clear q0 q1 q2 q3 q4
  have HB2 : Hid ((w1.drewN nq).heap[H]? = some (.cells #[.bool true, .int .i64 i, .int .i64 f, .int .i64 x] 38 (0, 0))) := HB1
  have HO2 := HO1
  clear HB1 HO1
  generalize w1.drewN nq = w2 at h2 N2 HB2 ⊢
  clear h1 N1
  go_wp2_with fail
  have q5 := (cellB HB2.out 1 _ rfl : w2.cell? ⟨H, 1, none⟩ = some (.int .i64 i))
  have q6 := h2.v0
  go_quiet (fail)
  have h3 := h2.drewN nq
  have N3 := N2.drewN nq
  clear q5 q6
  have HB3 : Hid ((w2.drewN nq).heap[H]? = some (.cells #[.bool true, .int .i64 i, .int .i64 f, .int .i64 x] 38 (0, 0))) := HB2
  have HO3 := HO2
  clear HB2 HO2
  generalize w2.drewN nq = w3 at h3 N3 HB3 ⊢
  clear h2 N2
  go_wp2
  go_ret
  exact Res.no rfl rfl N3

set_option maxRecDepth 100000 in
set_option maxHeartbeats 1600000 in
theorem c_boot1 {w : World} {own : Nat → Option Tag} {y : Lay} {s : Vs} {W : Wd} {N : Nat} (h : Cor w own y s) (S : Sim s W N) (hN : N < 1048576) {i f x : Int} (wff : (KL f).wf = true) {g : Fv} (hf : s.fu.a f = some g) (hne : i ≠ s.last + 1) : Calls Try.prog 24 #[ptr y.v, .agg #[.bool true, .int .i64 i, .int .i64 f, .int .i64 x]] w (Res w own y.v (N + 2) none) := by
    have hnx := S.gd.nxN
    have hn1 := S.gd.nx1
    have hl := S.last
    have N0 := Nx.refl w own
    have h0 := h
    clear h
    go_enter Try.func24, Try.ntmps24
    go_wp2_with fail
    have HB1 := heap_alloc_new w (.cells #[.bool true, .int .i64 i, .int .i64 f, .int .i64 x] 38)
    have HO1 := h0.fresh (Nat.le_refl w.heap.size)
    have h1 := h0.alloc (.cells #[.bool true, .int .i64 i, .int .i64 f, .int .i64 x] 38)
    have N1 := N0.alloc (.cells #[.bool true, .int .i64 i, .int .i64 f, .int .i64 x] 38)
    obtain ⟨H, hH⟩ : ∃ H, w.heap.size = H := ⟨_, rfl⟩
    rw [hH] at HB1 HO1
    try rw [hH]
    have HH := Lib.hid hH
    clear hH
    generalize w.alloc (.cells #[.bool true, .int .i64 i, .int .i64 f, .int .i64 x] 38) = w1 at HB1 h1 N1 ⊢
    replace HB1 := Lib.hid HB1
    replace HO1 := Lib.hid HO1
    clear h0 N0
    have q0 := h1.v1
    have q1 := (cellB HB1.out 2 _ rfl : w1.cell? ⟨H, 2, none⟩ = some (.int .i64 f))
    have q2 := fun y => (h1.drewN y).lfK hf wff
    have q3 := h1.drew.lfK hf wff
    have q4 := h1.lfK hf wff
    go_quiet (fail)
    have h2 := h1.drewN nq
    have N2 := N1.drewN nq
    clear q0 q1 q2 q3 q4
    have HB2 : Hid ((w1.drewN nq).heap[H]? = some (.cells #[.bool true, .int .i64 i, .int .i64 f, .int .i64 x] 38 (0, 0))) := HB1
    have HO2 := HO1
    clear HB1 HO1
    generalize w1.drewN nq = w2 at h2 N2 HB2 ⊢
    clear h1 N1
    go_wp2_with fail
    have q5 := (cellB HB2.out 1 _ rfl : w2.cell? ⟨H, 1, none⟩ = some (.int .i64 i))
    have q6 := h2.v0
    have hw1 : IntKind.i64.wrap (s.last + 1) = s.last + 1 := wr_small (by omega) (by omega)
    have hd : (i == s.last + 1) = false := beq_false_of_ne hne
    go_quiet (fail)
    have h3 := h2.drewN nq
    have N3 := N2.drewN nq
    clear q5 q6
    have HB3 : Hid ((w2.drewN nq).heap[H]? = some (.cells #[.bool true, .int .i64 i, .int .i64 f, .int .i64 x] 38 (0, 0))) := HB2
    have HO3 := HO2
    clear HB2 HO2
    generalize w2.drewN nq = w3 at h3 N3 HB3 ⊢
    clear h2 N2
    go_wp2
    go_ret
    exact Res.no rfl rfl N3

set_option maxRecDepth 100000 in
set_option maxHeartbeats 1600000 in
theorem c_boot2 {w : World} {own : Nat → Option Tag} {y : Lay} {s : Vs} {W : Wd} {N : Nat} (h : Cor w own y s) (S : Sim s W N) (hN : N < 1048576) {i f x : Int} (wff : (KL f).wf = true) (wfx : (KL x).wf = true) {g : Fv} (hf : s.fu.a f = some g) (hi : i = s.last + 1) (hfit : W.sz x < usd W.me W.L x + g.mem) : Calls Try.prog 24 #[ptr y.v, .agg #[.bool true, .int .i64 i, .int .i64 f, .int .i64 x]] w (Res w own y.v (N + 2) none) := by
    have hnx := S.gd.nxN
    have hn1 := S.gd.nx1
    have HL := Lib.hid S.last
    have HI := Lib.hid hi
    clear hi
    have N0 := Nx.refl w own
    have h0 := h
    clear h
    go_enter Try.func24, Try.ntmps24
    go_wp2_with fail
    have HB1 := heap_alloc_new w (.cells #[.bool true, .int .i64 i, .int .i64 f, .int .i64 x] 38)
    have HO1 := h0.fresh (Nat.le_refl w.heap.size)
    have h1 := h0.alloc (.cells #[.bool true, .int .i64 i, .int .i64 f, .int .i64 x] 38)
    have N1 := N0.alloc (.cells #[.bool true, .int .i64 i, .int .i64 f, .int .i64 x] 38)
    obtain ⟨H, hH⟩ : ∃ H, w.heap.size = H := ⟨_, rfl⟩
    rw [hH] at HB1 HO1
    try rw [hH]
    have HH := Lib.hid hH
    clear hH
    generalize w.alloc (.cells #[.bool true, .int .i64 i, .int .i64 f, .int .i64 x] 38) = w1 at HB1 h1 N1 ⊢
    replace HB1 := Lib.hid HB1
    replace HO1 := Lib.hid HO1
    clear h0 N0
    have q0 := h1.v1
    have q1 := (cellB HB1.out 2 _ rfl : w1.cell? ⟨H, 2, none⟩ = some (.int .i64 f))
    have q2 := fun y => (h1.drewN y).lfK hf wff
    have q3 := h1.drew.lfK hf wff
    have q4 := h1.lfK hf wff
    go_quiet (fail)
    have h2 := h1.drewN nq
    have N2 := N1.drewN nq
    clear q0 q1 q2 q3 q4
    have HB2 : Hid ((w1.drewN nq).heap[H]? = some (.cells #[.bool true, .int .i64 i, .int .i64 f, .int .i64 x] 38 (0, 0))) := HB1
    have HO2 := HO1
    clear HB1 HO1
    generalize w1.drewN nq = w2 at h2 N2 HB2 ⊢
    clear h1 N1
    go_wp2_with fail
    have q5 := (cellB HB2.out 1 _ rfl : w2.cell? ⟨H, 1, none⟩ = some (.int .i64 i))
    have q6 := h2.v0
    have hw1 : IntKind.i64.wrap (s.last + 1) = i := by rw [HI.out]; exact wr_small (by have := HL.out; omega) (by have := HL.out; omega)
    go_quiet (fail)
    have h3 := h2.drewN nq
    have N3 := N2.drewN nq
    clear q5 q6
    have HB3 : Hid ((w2.drewN nq).heap[H]? = some (.cells #[.bool true, .int .i64 i, .int .i64 f, .int .i64 x] 38 (0, 0))) := HB2
    have HO3 := HO2
    clear HB2 HO2
    generalize w2.drewN nq = w3 at h3 N3 HB3 ⊢
    clear h2 N2
    clear hw1
    have q7 := (cellB HB3.out 3 _ rfl : w3.cell? ⟨H, 3, none⟩ = some (.int .i64 x))
    go_wp2_with fail
    with_reducible refine (c_hostS h3 S (by omega) wfx).mono ?_
    rintro e3 w4 ⟨o4, y1, s1, p, rfl, h4, n4, S1, hp, hv1, hfb1, hfo1, hfu1, hla1⟩
    have N4 := N3.trans n4
    have HB4 : Hid (w4.heap[H]? = some (.cells #[.bool true, .int .i64 i, .int .i64 f, .int .i64 x] 38 (0, 0))) := Lib.hid (n4.blk HO3.out HB3.out)
    have HO4 := Lib.hid (n4.none HO3.out (lt_of_row HB3.out))
    clear HB3 HO3
    clear q7
    clear N3 n4 h3
    have eg1 : s1.fu.a f = some g := by rw [hfu1]; exact hf
    have hfb2 := congrFun hfb1 f
    rw [← hfb2, ← hv1]
    have hub := S1.usB (by omega) hp
    have HZB := Lib.hid (S1.szB hp)
    have hgb := S1.gd.mem _ _ (S1.me eg1)
    have HUS := Lib.hid (S1.us _ _ hp)
    have HV1 := Lib.hid hv1
    clear hv1 hfb1 hfb2 hfo1 hfu1 hla1
    have hw2 : IntKind.i64.wrap (p.used + g.mem) = p.used + g.mem := wr_small (by omega) (by omega)
    go_wp2_with fail
    have hd : decide (p.size < p.used + g.mem) = true := decide_eq_true (by rw [HUS.out, ← HZB.out.1]; omega)
    have q8 := h4.h0 hp
    have q9 := h4.h1 hp
    have q10 := h4.f0 eg1
    go_quiet (fail)
    have h5 := h4.drewN nq
    have N5 := N4.drewN nq
    clear q8 q9 q10
    have HB5 : Hid ((w4.drewN nq).heap[H]? = some (.cells #[.bool true, .int .i64 i, .int .i64 f, .int .i64 x] 38 (0, 0))) := HB4
    have HO5 := HO4
    clear HB4 HO4
    generalize w4.drewN nq = w5 at h5 N5 HB5 ⊢
    clear h4 N4
    clear hw2 hd
    go_wp2
    go_ret
    exact Res.no rfl rfl N5

set_option maxRecDepth 100000 in
set_option maxHeartbeats 1600000 in
theorem c_boot3 {w : World} {own : Nat → Option Tag} {y : Lay} {s : Vs} {W : Wd} {N : Nat} (h : Cor w own y s) (S : Sim s W N) (hN : N < 1048570) {i f x : Int} (wff : (KL f).wf = true) (wfx : (KL x).wf = true) {g : Fv} (hf : s.fu.a f = some g) (hi : i = s.last + 1) (hfit : usd W.me W.L x + g.mem ≤ W.sz x) : Calls Try.prog 24 #[ptr y.v, .agg #[.bool true, .int .i64 i, .int .i64 f, .int .i64 x]] w (Res w own y.v (N + 2) (cmd W (true, i, f, x))) := by
    have hnx := S.gd.nxN
    have hn1 := S.gd.nx1
    have HL := Lib.hid S.last
    have HI := Lib.hid hi
    clear hi
    have N0 := Nx.refl w own
    have h0 := h
    clear h
    go_enter Try.func24, Try.ntmps24
    go_wp2_with fail
    have HB1 := heap_alloc_new w (.cells #[.bool true, .int .i64 i, .int .i64 f, .int .i64 x] 38)
    have HO1 := h0.fresh (Nat.le_refl w.heap.size)
    have h1 := h0.alloc (.cells #[.bool true, .int .i64 i, .int .i64 f, .int .i64 x] 38)
    have N1 := N0.alloc (.cells #[.bool true, .int .i64 i, .int .i64 f, .int .i64 x] 38)
    obtain ⟨H, hH⟩ : ∃ H, w.heap.size = H := ⟨_, rfl⟩
    rw [hH] at HB1 HO1
    try rw [hH]
    have HH := Lib.hid hH
    clear hH
    generalize w.alloc (.cells #[.bool true, .int .i64 i, .int .i64 f, .int .i64 x] 38) = w1 at HB1 h1 N1 ⊢
    replace HB1 := Lib.hid HB1
    replace HO1 := Lib.hid HO1
    clear h0 N0
    have q0 := h1.v1
    have q1 := (cellB HB1.out 2 _ rfl : w1.cell? ⟨H, 2, none⟩ = some (.int .i64 f))
    have q2 := fun y => (h1.drewN y).lfK hf wff
    have q3 := h1.drew.lfK hf wff
    have q4 := h1.lfK hf wff
    go_quiet (fail)
    have h2 := h1.drewN nq
    have N2 := N1.drewN nq
    clear q0 q1 q2 q3 q4
    have HB2 : Hid ((w1.drewN nq).heap[H]? = some (.cells #[.bool true, .int .i64 i, .int .i64 f, .int .i64 x] 38 (0, 0))) := HB1
    have HO2 := HO1
    clear HB1 HO1
    generalize w1.drewN nq = w2 at h2 N2 HB2 ⊢
    clear h1 N1
    go_wp2_with fail
    have q5 := (cellB HB2.out 1 _ rfl : w2.cell? ⟨H, 1, none⟩ = some (.int .i64 i))
    have q6 := h2.v0
    have hw1 : IntKind.i64.wrap (s.last + 1) = i := by rw [HI.out]; exact wr_small (by have := HL.out; omega) (by have := HL.out; omega)
    go_quiet (fail)
    have h3 := h2.drewN nq
    have N3 := N2.drewN nq
    clear q5 q6
    have HB3 : Hid ((w2.drewN nq).heap[H]? = some (.cells #[.bool true, .int .i64 i, .int .i64 f, .int .i64 x] 38 (0, 0))) := HB2
    have HO3 := HO2
    clear HB2 HO2
    generalize w2.drewN nq = w3 at h3 N3 HB3 ⊢
    clear h2 N2
    clear hw1
    have q7 := (cellB HB3.out 3 _ rfl : w3.cell? ⟨H, 3, none⟩ = some (.int .i64 x))
    go_wp2_with fail
    with_reducible refine (c_hostS h3 S (by omega) wfx).mono ?_
    rintro e3 w4 ⟨o4, y1, s1, p, rfl, h4, n4, S1, hp, hv1, hfb1, hfo1, hfu1, hla1⟩
    have N4 := N3.trans n4
    have HB4 : Hid (w4.heap[H]? = some (.cells #[.bool true, .int .i64 i, .int .i64 f, .int .i64 x] 38 (0, 0))) := Lib.hid (n4.blk HO3.out HB3.out)
    have HO4 := Lib.hid (n4.none HO3.out (lt_of_row HB3.out))
    clear HB3 HO3
    clear q7
    clear N3 n4 h3
    have eg1 : s1.fu.a f = some g := by rw [hfu1]; exact hf
    have hfb2 := congrFun hfb1 f
    rw [← hfb2, ← hv1]
    have hub := S1.usB (by omega) hp
    have HZB := Lib.hid (S1.szB hp)
    have hgb := S1.gd.mem _ _ (S1.me eg1)
    have HUS := Lib.hid (S1.us _ _ hp)
    have HV1 := Lib.hid hv1
    clear hv1 hfb1 hfb2 hfo1 hfu1 hla1
    have hw2 : IntKind.i64.wrap (p.used + g.mem) = p.used + g.mem := wr_small (by omega) (by omega)
    go_wp2_with fail
    have hd : decide (p.size < p.used + g.mem) = false := dec_f (by rw [HUS.out, ← HZB.out.1]; omega)
    have q8 := h4.h0 hp
    have q9 := h4.h1 hp
    have q10 := h4.f0 eg1
    go_quiet (fail)
    have h5 := h4.drewN nq
    have N5 := N4.drewN nq
    clear q8 q9 q10
    have HB5 : Hid ((w4.drewN nq).heap[H]? = some (.cells #[.bool true, .int .i64 i, .int .i64 f, .int .i64 x] 38 (0, 0))) := HB4
    have HO5 := HO4
    clear HB4 HO4
    generalize w4.drewN nq = w5 at h5 N5 HB5 ⊢
    clear h4 N4
    clear hw2 hd
    have q11 := h5.v0
    have q12 := (cellB HB5.out 1 _ rfl : w5.cell? ⟨H, 1, none⟩ = some (.int .i64 i))
    have hr := (h5.ob .vw).2
    go_wp2_with (with_reducible refine wpList_store_in rfl 3 (.tmp 52) (.tmp 50) rfl (by kernel_rfl) y1.v 0 rfl .i64 i rfl _ _ hr (by simp [vrow]) ?_; intro w6 m6 g6; obtain ⟨h6, n6⟩ := Cor.vw h5 (n := i) m6.out g6; have N6 := N5.trans n6; have HB6 : Hid (w6.heap[H]? = some (.cells #[.bool true, .int .i64 i, .int .i64 f, .int .i64 x] 38 (0, 0))) := Lib.hid (n6.blk HO5.out HB5.out); have HO6 := Lib.hid (n6.none HO5.out (lt_of_row HB5.out)); have z1 := (cellB HB6.out 1 _ rfl : w6.cell? ⟨H, 1, none⟩ = some (.int .i64 i)); have z2 := (cellB HB6.out 2 _ rfl : w6.cell? ⟨H, 2, none⟩ = some (.int .i64 f)); have z3 := (cellB HB6.out 3 _ rfl : w6.cell? ⟨H, 3, none⟩ = some (.int .i64 x)))
    clear q11 q12
    have hcmd : cmd W (true, i, f, x) = some (bootW W (true, i, f, x)) := by
      unfold cmd; rw [if_pos rfl, S1.me eg1]; dsimp only; rw [if_pos ⟨by rw [HI.out, HL.out], by omega⟩]
    have hnone : fnd W.L i = none := At.none (fun j b hb q => by
      have := S.gd.ids b (List.mem_of_getElem? hb); have := HI.out; have := HL.out; omega)
    have hUn : Unused s1 i := S1.unused hnone
    have hUn2 : Unused ({ s1 with last := i } : Vs) i := ⟨hUn.bx, hUn.mx, hUn.bo⟩
    have hk := h6.newB hUn2 (b := ⟨i, f, x, true, false⟩) rfl (heap_alloc_new w6 _) ((Below.refl _ _).alloc (Nat.le_refl _) _)
    have hcn := S1.on f g x eg1
    have hle : cnt W.L f x ≤ N := Nat.le_trans (cnt_le_len _ _ _) S.gd.len
    have hget : (g.on.a x).getD 0 = (cnt W.L f x : Int) := by
      rw [hcn]; split
      · rename_i q; rw [q]; rfl
      · rfl
    have nno := S1.no _ _ eg1
    have nnb := S1.nb _ _ hp
    have nnm := S1.nm
    have wfi : (KL i).wf = true := wfK (by have := HI.out; have := HL.out; omega) (by have := HI.out; have := HL.out; omega)
    have hput := c_put (y := y1.withB i w6.heap.size) hk.1 (i := i) (b := ⟨i, f, x, true, false⟩) (setB_at _ ⟨i, f, x, true, false⟩) rfl (g := g) eg1 (x := p) hp wfi wff wfx hget (by omega) (by omega) hub.1 (by omega) hgb.1 (by omega) (by omega) (by omega) (by show s1.mx.n < _; omega)
    rw [withB_at] at hput
    have HC := Lib.hid hcmd
    have hN2 := N6.trans hk.2
    refine hput.mono ?_
    rintro e6 w7 ⟨rfl, o7, h7, n7⟩
    have N7 := hN2.trans n7
    clear z1 z2 z3
    have hS := S1.boot (by omega) (c := (true, i, f, x)) ⟨wfi, wff, wfx⟩ rfl (by rw [HI.out, HL.out]) eg1 hp (by dsimp only; omega)
    go_wp2
    go_ret
    rw [hget] at hS
    exact Res.yes (y' := y1.withB i w6.heap.size) HC.out rfl HV1.out N7 h7 hS

set_option maxRecDepth 100000 in
set_option maxHeartbeats 1600000 in
theorem c_kill0 {w : World} {own : Nat → Option Tag} {y : Lay} {s : Vs} {W : Wd} {N : Nat} (h : Cor w own y s) (S : Sim s W N) (hN : N < 1048576) {i f x : Int} (wfi : (KL i).wf = true) (hmx : s.mx.a i = none) : Calls Try.prog 25 #[ptr y.v, .agg #[.bool false, .int .i64 i, .int .i64 f, .int .i64 x]] w (Res w own y.v (N + 2) none) := by
  have N0 := Nx.refl w own
  have h0 := h
  clear h
  go_enter Try.func25, Try.ntmps25
  go_wp2_with fail
  have HB1 := heap_alloc_new w (.cells #[.bool false, .int .i64 i, .int .i64 f, .int .i64 x] 38)
  have HO1 := h0.fresh (Nat.le_refl w.heap.size)
  have h1 := h0.alloc (.cells #[.bool false, .int .i64 i, .int .i64 f, .int .i64 x] 38)
  have N1 := N0.alloc (.cells #[.bool false, .int .i64 i, .int .i64 f, .int .i64 x] 38)
  obtain ⟨H, hH⟩ : ∃ H, w.heap.size = H := ⟨_, rfl⟩
  rw [hH] at HB1 HO1
  try rw [hH]
  have HH := Lib.hid hH
  clear hH
  generalize w.alloc (.cells #[.bool false, .int .i64 i, .int .i64 f, .int .i64 x] 38) = w1 at HB1 h1 N1 ⊢
  replace HB1 := Lib.hid HB1
  replace HO1 := Lib.hid HO1
  clear h0 N0
  have q0 := h1.v3
  have q1 := (cellB HB1.out 1 _ rfl : w1.cell? ⟨H, 1, none⟩ = some (.int .i64 i))
  have q2 := fun y => (h1.drewN y).lxN hmx wfi
  have q3 := h1.drew.lxN hmx wfi
  have q4 := h1.lxN hmx wfi
  go_quiet (fail)
  have h2 := h1.drewN nq
  have N2 := N1.drewN nq
  clear q0 q1 q2 q3 q4
  have HB2 : Hid ((w1.drewN nq).heap[H]? = some (.cells #[.bool false, .int .i64 i, .int .i64 f, .int .i64 x] 38 (0, 0))) := HB1
  have HO2 := HO1
  clear HB1 HO1
  generalize w1.drewN nq = w2 at h2 N2 HB2 ⊢
  clear h1 N1
  go_wp2_with fail
  have q5 := (cellB HB2.out 2 _ rfl : w2.cell? ⟨H, 2, none⟩ = some (.int .i64 f))
  have q6 := (cellB HB2.out 3 _ rfl : w2.cell? ⟨H, 3, none⟩ = some (.int .i64 x))
  go_quiet (fail)
  have h3 := h2.drewN nq
  have N3 := N2.drewN nq
  clear q5 q6
  have HB3 : Hid ((w2.drewN nq).heap[H]? = some (.cells #[.bool false, .int .i64 i, .int .i64 f, .int .i64 x] 38 (0, 0))) := HB2
  have HO3 := HO2
  clear HB2 HO2
  generalize w2.drewN nq = w3 at h3 N3 HB3 ⊢
  clear h2 N2
  go_wp2
  go_ret
  exact Res.no rfl rfl N3

set_option maxRecDepth 100000 in
set_option maxHeartbeats 1600000 in
theorem c_kill1 {w : World} {own : Nat → Option Tag} {y : Lay} {s : Vs} {W : Wd} {N : Nat} (h : Cor w own y s) (S : Sim s W N) (hN : N < 1048576) {i f x : Int} (wfi : (KL i).wf = true) {b : Bv} (e : fnd W.L i = some b) (hbu : b.busy = true) : Calls Try.prog 25 #[ptr y.v, .agg #[.bool false, .int .i64 i, .int .i64 f, .int .i64 x]] w (Res w own y.v (N + 2) none) := by
  obtain ⟨bi, bf, bh, bb, bu⟩ := b
  dsimp only at hbu
  subst hbu
  have N0 := Nx.refl w own
  have h0 := h
  clear h
  obtain ⟨g, p, hb, hid, hmx, hg, hp, hon, hpos, hbo⟩ := S.box e
  clear hid hon hbo hg hp hpos
  go_enter Try.func25, Try.ntmps25
  go_wp2_with fail
  have HB1 := heap_alloc_new w (.cells #[.bool false, .int .i64 i, .int .i64 f, .int .i64 x] 38)
  have HO1 := h0.fresh (Nat.le_refl w.heap.size)
  have h1 := h0.alloc (.cells #[.bool false, .int .i64 i, .int .i64 f, .int .i64 x] 38)
  have N1 := N0.alloc (.cells #[.bool false, .int .i64 i, .int .i64 f, .int .i64 x] 38)
  obtain ⟨H, hH⟩ : ∃ H, w.heap.size = H := ⟨_, rfl⟩
  rw [hH] at HB1 HO1
  try rw [hH]
  have HH := Lib.hid hH
  clear hH
  generalize w.alloc (.cells #[.bool false, .int .i64 i, .int .i64 f, .int .i64 x] 38) = w1 at HB1 h1 N1 ⊢
  replace HB1 := Lib.hid HB1
  replace HO1 := Lib.hid HO1
  clear h0 N0
  have q0 := h1.v3
  have q1 := (cellB HB1.out 1 _ rfl : w1.cell? ⟨H, 1, none⟩ = some (.int .i64 i))
  have q2 := fun y => (h1.drewN y).lxK hmx wfi
  have q3 := h1.drew.lxK hmx wfi
  have q4 := h1.lxK hmx wfi
  go_quiet (fail)
  have h2 := h1.drewN nq
  have N2 := N1.drewN nq
  clear q0 q1 q2 q3 q4
  have HB2 : Hid ((w1.drewN nq).heap[H]? = some (.cells #[.bool false, .int .i64 i, .int .i64 f, .int .i64 x] 38 (0, 0))) := HB1
  have HO2 := HO1
  clear HB1 HO1
  generalize w1.drewN nq = w2 at h2 N2 HB2 ⊢
  clear h1 N1
  go_wp2_with fail
  have q5 := (cellB HB2.out 2 _ rfl : w2.cell? ⟨H, 2, none⟩ = some (.int .i64 f))
  have q6 := (cellB HB2.out 3 _ rfl : w2.cell? ⟨H, 3, none⟩ = some (.int .i64 x))
  have q7 := h2.b4 hb
  have q8 := h2.b1 hb
  have q9 := h2.b2 hb
  go_quiet (fail)
  have h3 := h2.drewN nq
  have N3 := N2.drewN nq
  clear q5 q6 q7 q8 q9
  have HB3 : Hid ((w2.drewN nq).heap[H]? = some (.cells #[.bool false, .int .i64 i, .int .i64 f, .int .i64 x] 38 (0, 0))) := HB2
  have HO3 := HO2
  clear HB2 HO2
  generalize w2.drewN nq = w3 at h3 N3 HB3 ⊢
  clear h2 N2
  go_wp2
  go_ret
  exact Res.no rfl rfl N3

set_option maxRecDepth 100000 in
set_option maxHeartbeats 1600000 in
theorem c_kill2 {w : World} {own : Nat → Option Tag} {y : Lay} {s : Vs} {W : Wd} {N : Nat} (h : Cor w own y s) (S : Sim s W N) (hN : N < 1048576) {i f x : Int} (wfi : (KL i).wf = true) {b : Bv} (e : fnd W.L i = some b) (hbu : b.busy = false) (hbf : b.fn ≠ f) : Calls Try.prog 25 #[ptr y.v, .agg #[.bool false, .int .i64 i, .int .i64 f, .int .i64 x]] w (Res w own y.v (N + 2) none) := by
  have hd : (b.fn == f) = false := beq_false_of_ne hbf
  have N0 := Nx.refl w own
  have h0 := h
  clear h
  obtain ⟨g, p, hb, hid, hmx, hg, hp, hon, hpos, hbo⟩ := S.box e
  clear hid hon hbo hg hp hpos
  go_enter Try.func25, Try.ntmps25
  go_wp2_with fail
  have HB1 := heap_alloc_new w (.cells #[.bool false, .int .i64 i, .int .i64 f, .int .i64 x] 38)
  have HO1 := h0.fresh (Nat.le_refl w.heap.size)
  have h1 := h0.alloc (.cells #[.bool false, .int .i64 i, .int .i64 f, .int .i64 x] 38)
  have N1 := N0.alloc (.cells #[.bool false, .int .i64 i, .int .i64 f, .int .i64 x] 38)
  obtain ⟨H, hH⟩ : ∃ H, w.heap.size = H := ⟨_, rfl⟩
  rw [hH] at HB1 HO1
  try rw [hH]
  have HH := Lib.hid hH
  clear hH
  generalize w.alloc (.cells #[.bool false, .int .i64 i, .int .i64 f, .int .i64 x] 38) = w1 at HB1 h1 N1 ⊢
  replace HB1 := Lib.hid HB1
  replace HO1 := Lib.hid HO1
  clear h0 N0
  have q0 := h1.v3
  have q1 := (cellB HB1.out 1 _ rfl : w1.cell? ⟨H, 1, none⟩ = some (.int .i64 i))
  have q2 := fun y => (h1.drewN y).lxK hmx wfi
  have q3 := h1.drew.lxK hmx wfi
  have q4 := h1.lxK hmx wfi
  go_quiet (fail)
  have h2 := h1.drewN nq
  have N2 := N1.drewN nq
  clear q0 q1 q2 q3 q4
  have HB2 : Hid ((w1.drewN nq).heap[H]? = some (.cells #[.bool false, .int .i64 i, .int .i64 f, .int .i64 x] 38 (0, 0))) := HB1
  have HO2 := HO1
  clear HB1 HO1
  generalize w1.drewN nq = w2 at h2 N2 HB2 ⊢
  clear h1 N1
  go_wp2_with fail
  have q5 := (cellB HB2.out 2 _ rfl : w2.cell? ⟨H, 2, none⟩ = some (.int .i64 f))
  have q6 := (cellB HB2.out 3 _ rfl : w2.cell? ⟨H, 3, none⟩ = some (.int .i64 x))
  have q7 := h2.b4 hb
  have q8 := h2.b1 hb
  have q9 := h2.b2 hb
  go_quiet (fail)
  have h3 := h2.drewN nq
  have N3 := N2.drewN nq
  clear q5 q6 q7 q8 q9
  have HB3 : Hid ((w2.drewN nq).heap[H]? = some (.cells #[.bool false, .int .i64 i, .int .i64 f, .int .i64 x] 38 (0, 0))) := HB2
  have HO3 := HO2
  clear HB2 HO2
  generalize w2.drewN nq = w3 at h3 N3 HB3 ⊢
  clear h2 N2
  go_wp2
  go_ret
  exact Res.no rfl rfl N3

set_option maxRecDepth 100000 in
set_option maxHeartbeats 1600000 in
theorem c_kill3 {w : World} {own : Nat → Option Tag} {y : Lay} {s : Vs} {W : Wd} {N : Nat} (h : Cor w own y s) (S : Sim s W N) (hN : N < 1048576) {i f x : Int} (wfi : (KL i).wf = true) {b : Bv} (e : fnd W.L i = some b) (hbu : b.busy = false) (hbf : b.fn = f) (hbh : b.ho ≠ x) : Calls Try.prog 25 #[ptr y.v, .agg #[.bool false, .int .i64 i, .int .i64 f, .int .i64 x]] w (Res w own y.v (N + 2) none) := by
  subst hbf
  have hd : (b.ho == x) = false := beq_false_of_ne hbh
  have N0 := Nx.refl w own
  have h0 := h
  clear h
  obtain ⟨g, p, hb, hid, hmx, hg, hp, hon, hpos, hbo⟩ := S.box e
  clear hid hon hbo hg hp hpos
  go_enter Try.func25, Try.ntmps25
  go_wp2_with fail
  have HB1 := heap_alloc_new w (.cells #[.bool false, .int .i64 i, .int .i64 b.fn, .int .i64 x] 38)
  have HO1 := h0.fresh (Nat.le_refl w.heap.size)
  have h1 := h0.alloc (.cells #[.bool false, .int .i64 i, .int .i64 b.fn, .int .i64 x] 38)
  have N1 := N0.alloc (.cells #[.bool false, .int .i64 i, .int .i64 b.fn, .int .i64 x] 38)
  obtain ⟨H, hH⟩ : ∃ H, w.heap.size = H := ⟨_, rfl⟩
  rw [hH] at HB1 HO1
  try rw [hH]
  have HH := Lib.hid hH
  clear hH
  generalize w.alloc (.cells #[.bool false, .int .i64 i, .int .i64 b.fn, .int .i64 x] 38) = w1 at HB1 h1 N1 ⊢
  replace HB1 := Lib.hid HB1
  replace HO1 := Lib.hid HO1
  clear h0 N0
  have q0 := h1.v3
  have q1 := (cellB HB1.out 1 _ rfl : w1.cell? ⟨H, 1, none⟩ = some (.int .i64 i))
  have q2 := fun y => (h1.drewN y).lxK hmx wfi
  have q3 := h1.drew.lxK hmx wfi
  have q4 := h1.lxK hmx wfi
  go_quiet (fail)
  have h2 := h1.drewN nq
  have N2 := N1.drewN nq
  clear q0 q1 q2 q3 q4
  have HB2 : Hid ((w1.drewN nq).heap[H]? = some (.cells #[.bool false, .int .i64 i, .int .i64 b.fn, .int .i64 x] 38 (0, 0))) := HB1
  have HO2 := HO1
  clear HB1 HO1
  generalize w1.drewN nq = w2 at h2 N2 HB2 ⊢
  clear h1 N1
  go_wp2_with fail
  have q5 := (cellB HB2.out 2 _ rfl : w2.cell? ⟨H, 2, none⟩ = some (.int .i64 b.fn))
  have q6 := (cellB HB2.out 3 _ rfl : w2.cell? ⟨H, 3, none⟩ = some (.int .i64 x))
  have q7 := h2.b4 hb
  have q8 := h2.b1 hb
  have q9 := h2.b2 hb
  go_quiet (fail)
  have h3 := h2.drewN nq
  have N3 := N2.drewN nq
  clear q5 q6 q7 q8 q9
  have HB3 : Hid ((w2.drewN nq).heap[H]? = some (.cells #[.bool false, .int .i64 i, .int .i64 b.fn, .int .i64 x] 38 (0, 0))) := HB2
  have HO3 := HO2
  clear HB2 HO2
  generalize w2.drewN nq = w3 at h3 N3 HB3 ⊢
  clear h2 N2
  go_wp2
  go_ret
  exact Res.no rfl rfl N3

set_option maxRecDepth 100000 in
set_option maxHeartbeats 1600000 in
theorem c_kill4 {w : World} {own : Nat → Option Tag} {y : Lay} {s : Vs} {W : Wd} {N : Nat} (h : Cor w own y s) (S : Sim s W N) (hN : N < 1048576) {i f x : Int} (wfi : (KL i).wf = true) {b : Bv} (e : fnd W.L i = some b) (hbu : b.busy = false) (hbf : b.fn = f) (hbh : b.ho = x) : Calls Try.prog 25 #[ptr y.v, .agg #[.bool false, .int .i64 i, .int .i64 f, .int .i64 x]] w (Res w own y.v N (some { W with L := drp W.L i })) := by
  subst hbf
  subst hbh
  have N0 := Nx.refl w own
  have h0 := h
  clear h
  obtain ⟨g, p, hb, hid, hmx, hg, hp, hon, hpos, hbo⟩ := S.box e
  clear hid hon hbo hg hp hpos
  go_enter Try.func25, Try.ntmps25
  go_wp2_with fail
  have HB1 := heap_alloc_new w (.cells #[.bool false, .int .i64 i, .int .i64 b.fn, .int .i64 b.ho] 38)
  have HO1 := h0.fresh (Nat.le_refl w.heap.size)
  have h1 := h0.alloc (.cells #[.bool false, .int .i64 i, .int .i64 b.fn, .int .i64 b.ho] 38)
  have N1 := N0.alloc (.cells #[.bool false, .int .i64 i, .int .i64 b.fn, .int .i64 b.ho] 38)
  obtain ⟨H, hH⟩ : ∃ H, w.heap.size = H := ⟨_, rfl⟩
  rw [hH] at HB1 HO1
  try rw [hH]
  have HH := Lib.hid hH
  clear hH
  generalize w.alloc (.cells #[.bool false, .int .i64 i, .int .i64 b.fn, .int .i64 b.ho] 38) = w1 at HB1 h1 N1 ⊢
  replace HB1 := Lib.hid HB1
  replace HO1 := Lib.hid HO1
  clear h0 N0
  have q0 := h1.v3
  have q1 := (cellB HB1.out 1 _ rfl : w1.cell? ⟨H, 1, none⟩ = some (.int .i64 i))
  have q2 := fun y => (h1.drewN y).lxK hmx wfi
  have q3 := h1.drew.lxK hmx wfi
  have q4 := h1.lxK hmx wfi
  go_quiet (fail)
  have h2 := h1.drewN nq
  have N2 := N1.drewN nq
  clear q0 q1 q2 q3 q4
  have HB2 : Hid ((w1.drewN nq).heap[H]? = some (.cells #[.bool false, .int .i64 i, .int .i64 b.fn, .int .i64 b.ho] 38 (0, 0))) := HB1
  have HO2 := HO1
  clear HB1 HO1
  generalize w1.drewN nq = w2 at h2 N2 HB2 ⊢
  clear h1 N1
  go_wp2_with fail
  have q5 := (cellB HB2.out 2 _ rfl : w2.cell? ⟨H, 2, none⟩ = some (.int .i64 b.fn))
  have q6 := (cellB HB2.out 3 _ rfl : w2.cell? ⟨H, 3, none⟩ = some (.int .i64 b.ho))
  have q7 := h2.b4 hb
  have q8 := h2.b1 hb
  have q9 := h2.b2 hb
  go_quiet (fail)
  have h3 := h2.drewN nq
  have N3 := N2.drewN nq
  clear q5 q6 q7 q8 q9
  have HB3 : Hid ((w2.drewN nq).heap[H]? = some (.cells #[.bool false, .int .i64 i, .int .i64 b.fn, .int .i64 b.ho] 38 (0, 0))) := HB2
  have HO3 := HO2
  clear HB2 HO2
  generalize w2.drewN nq = w3 at h3 N3 HB3 ⊢
  clear h2 N2
  go_wp2_with fail
  refine (c_dropS h3 S hN e).mono ?_
  rintro e3 w4 ⟨rfl, o4, s1, h4, n4, S1, _⟩
  have N4 := N3.trans n4
  go_wp2
  go_ret
  exact Res.yes rfl rfl rfl N4 h4 S1

end Go.Proofs.Ytgpookphacdgoaa.W.U
