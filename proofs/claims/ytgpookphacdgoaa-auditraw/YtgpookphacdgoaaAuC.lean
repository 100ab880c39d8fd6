/- Package audit: a view made; a host; a sandbox put, and dropped. -/
import Derived.Test.YtgpookphacdgoaaAuB
namespace Go.Proofs.Ytgpookphacdgoaa.W.U
open Go.RowKit Go.Maps Go.ChangeMaps Go.MapKept Go.Proofs.Ytgpookphacdgoaa.W

theorem Cor.lhK {w : World} {own : Nat → Option Tag} {y : Lay} {s : Vs} (h : Cor w own y s) {n : Int} {v : _} (e : s.ho.a n = some v) (hw : (KL n).wf = true) : (Instr.lookup 49 (.map (some y.mh)) (.int .i64 n) true).run Try.prog w = .ok (.tuple #[ptr (y.hb n), .bool true]) w := by
  have := mp_run_ok (h.ob .mh).2 Try.underlying3 Try.underlying49 (zeroHo w) hw
  rw [e] at this; exact this
theorem Cor.lhN {w : World} {own : Nat → Option Tag} {y : Lay} {s : Vs} (h : Cor w own y s) {n : Int} (e : s.ho.a n = none) (hw : (KL n).wf = true) : (Instr.lookup 49 (.map (some y.mh)) (.int .i64 n) true).run Try.prog w = .ok (.tuple #[.pointer none, .bool false]) w := by
  have := mp_run_ok (h.ob .mh).2 Try.underlying3 Try.underlying49 (zeroHo w) hw
  rw [e] at this; exact this
theorem tag_ne {own : Nat → Option Tag} {a b : Nat} {t u : Tag} (ha : own a = some t) (hb : own b = some u) (h : t ≠ u) : a ≠ b := fun q => h (by rw [q, hb] at ha; cases ha; rfl)
theorem Ri.same {P : Program} {t : TypeId} {w w' : World} {b r : Nat} {M : Int → Option Value} {c : Nat} {left : Int → Bool} {cnt : Nat} (h : Ri P t w b r M c left cnt) (hb : w'.heap[b]? = w.heap[b]?) (hr : w'.heap[r]? = w.heap[r]?) : Ri P t w' b r M c left cnt := by
  obtain ⟨D, lf, n, h1, h2, h3, h4⟩ := h
  refine ⟨D, lf, n, ?_, h2, h3, h4⟩
  obtain ⟨es, clock, since, seen, c0, a1, a2, a3, a4, a5, a6⟩ := h1
  exact ⟨es, clock, since, seen, c0, by rw [hb]; exact a1, a2, a3, a4, by rw [hr]; exact a5, a6⟩
theorem Tb.set_set {α : Type} (m : Tb α) (i : Int) (v u : α) : (m.set i v).set i u = m.set i u := by
  unfold Tb.set
  simp [updZ_same, updZ_twice]
theorem setF_setF (s : Vs) (x : Int) (p q : Fv) : (s.setF x p).setF x q = s.setF x q := by unfold Vs.setF; rw [Tb.set_set]
theorem setH_setH (s : Vs) (x : Int) (p q : Hv) : (s.setH x p).setH x q = s.setH x q := by unfold Vs.setH; rw [Tb.set_set]
theorem setF_at (s : Vs) (x : Int) (p : Fv) : (s.setF x p).fu.a x = some p := Tb.set_at _ _ _
theorem setH_at (s : Vs) (x : Int) (p : Hv) : (s.setH x p).ho.a x = some p := Tb.set_at _ _ _
theorem setB_at (s : Vs) (b : Bv) : (s.setB b).bx b.id = some b := updZ_same _ _ _
theorem wr_small {x : Int} (h0 : -9223372036854775808 ≤ x) (h1 : x ≤ 9223372036854775807) : IntKind.i64.wrap x = x := by rw [IntKind.wrap_i64]; omega
theorem len1g {n : Nat} (h : n < 1073741824) : n < maxLen := by
  have : (1073741824 : Nat) < maxLen := by decide
  omega
def noL : Lay := ⟨0, 0, 0, 0, fun _ => 0, fun _ => 0, fun _ => 0, fun _ => 0, fun _ => 0⟩


set_option maxRecDepth 100000 in
set_option maxHeartbeats 800000 in
theorem c_new (w : World) : Calls Try.prog 8 #[] w fun e w' => ∃ own y, e = .returned (ptr y.v) ∧ Cor w' own y .zero ∧ (∀ j, own j ≠ none → w.heap.size ≤ j) ∧ Below w.heap.size w w' := by
  go_enter Try.func8, Try.ntmps8
  have hmm := @run_makeMap Try.prog
  go_wp2
  go_ret
  obtain ⟨n, hn⟩ : ∃ n, w.heap.size = n := ⟨_, rfl⟩
  have m1 : Mp Try.prog 3 (w.alloc (.map #[] 0)) n (fun _ => none) 0 := by rw [← hn]; exact Mp.made _ _ _
  have m2 : Mp Try.prog 3 ((w.alloc (.map #[] 0)).alloc (.map #[] 0)) (n + 1) (fun _ => none) 0 := by
    have := Mp.made Try.prog 3 (w.alloc (.map #[] 0)); rw [World.size_alloc, hn] at this; exact this
  have m3 : Mp Try.prog 3 (((w.alloc (.map #[] 0)).alloc (.map #[] 0)).alloc (.map #[] 0)) (n + 2) (fun _ => none) 0 := by
    have := Mp.made Try.prog 3 ((w.alloc (.map #[] 0)).alloc (.map #[] 0)); rw [World.size_alloc, World.size_alloc, hn] at this; exact this
  have k2 := (Only.refl ((w.alloc (.map #[] 0)).alloc (.map #[] 0)) (fun _ => False)).alloc (.map #[] 0)
  generalize hw3 : ((w.alloc (.map #[] 0)).alloc (.map #[] 0)).alloc (.map #[] 0) = w3 at m3 k2
  have s3 : w3.heap.size = n + 3 := by rw [← hw3, World.size_alloc, World.size_alloc, World.size_alloc, hn]
  have k1 : Only (w.alloc (.map #[] 0)) w3 (fun _ => False) := by rw [← hw3]; exact ((Only.refl _ _).alloc _).alloc _
  have k0 : Only w w3 (fun _ => False) := by rw [← hw3]; exact (((Only.refl _ _).alloc _).alloc _).alloc _
  simp only [hn]
  have k3 := (Only.refl w3 (fun _ => False)).alloc (.cells #[.int .i64 0, .map (some n), .map (some (n + 1)), .map (some (n + 2))] 52)
  have r3 := heap_alloc_new w3 (.cells #[.int .i64 0, .map (some n), .map (some (n + 1)), .map (some (n + 2))] 52)
  rw [s3] at r3
  refine ⟨fun j => if j = n then some .mf else if j = n + 1 then some .mh else if j = n + 2 then some .mx else if j = n + 3 then some .vw else none, { noL with v := n + 3, mf := n, mh := n + 1, mx := n + 2 }, rfl, ⟨fun j t q => ?_, fun t => ?_⟩, fun j q => ?_, ?_⟩
  · rw [World.size_alloc, s3]
    split at q
    · omega
    · split at q
      · omega
      · split at q
        · omega
        · split at q
          · omega
          · cases q
  · cases t with
    | vw => exact ⟨by dsimp only; rw [if_neg (by omega), if_neg (by omega), if_neg (by omega), if_pos rfl], r3⟩
    | mf => exact ⟨by dsimp only; rw [if_pos rfl], (m1.kept k1 (fun q => q)).kept k3 (fun q => q)⟩
    | mh => exact ⟨by dsimp only; rw [if_neg (by omega), if_pos rfl], (m2.kept k2 (fun q => q)).kept k3 (fun q => q)⟩
    | mx => exact ⟨by dsimp only; rw [if_neg (by omega), if_neg (by omega), if_pos rfl], m3.kept k3 (fun q => q)⟩
    | fb f => exact fun g hg => by cases hg
    | fo f => exact fun g hg => by cases hg
    | hb f => exact fun g hg => by cases hg
    | hm f => exact fun g hg => by cases hg
    | bx f => exact fun g hg => by cases hg
  · dsimp only at q
    split at q
    · omega
    · split at q
      · omega
      · split at q
        · omega
        · split at q
          · omega
          · exact absurd rfl q
  · exact (k0.tr k3).below (fun _ q => q.elim) (by omega)

set_option maxRecDepth 100000 in
set_option maxHeartbeats 1600000 in
theorem c_host0 {w : World} {own : Nat → Option Tag} {y : Lay} {s : Vs} (h : Cor w own y s) {n : Int} {x : Hv} (e : s.ho.a n = some x) (wf : (KL n).wf = true) : Calls Try.prog 27 #[ptr y.v, .int .i64 n] w fun e w' => e = .returned (ptr (y.hb n)) ∧ w = w' := by
  have N0 := Nx.refl w own
  have h0 := h
  clear h
  have q0 := h0.v2
  have q1 := h0.lhK e wf
  go_enter Try.func27, Try.ntmps27
  go_wp2_with fail
  go_wp2
  go_ret
  exact ⟨rfl, rfl⟩

set_option maxRecDepth 100000 in
set_option maxHeartbeats 1600000 in
theorem c_host1 {w : World} {own : Nat → Option Tag} {y : Lay} {s : Vs} (h : Cor w own y s) {n : Int} (e : s.ho.a n = none) (wf : (KL n).wf = true) (hn : s.ho.n < 1073741824) : Calls Try.prog 27 #[ptr y.v, .int .i64 n] w fun e w' => ∃ p m own', e = .returned (ptr ((y.withH n p m).hb n)) ∧ Cor w' own' (y.withH n p m) (s.setH n ⟨0, 0, .nil⟩) ∧ Nx w own w' own' := by
  have N0 := Nx.refl w own
  have h0 := h
  clear h
  have q0 := h0.v2
  have q1 := h0.lhN e wf
  have hmm := @run_makeMap Try.prog
  have a1 := (h0.alloc (.map #[] 0)).alloc (.cells #[.int .i64 0, .int .i64 0, .map (some w.heap.size)] 70)
  have hmp := MpT.mp (a1.ob .mh).2
  have q2 := a1.v2
  have ha := heap_alloc_new (w.alloc (.map #[] 0)) (.cells #[.int .i64 0, .int .i64 0, .map (some w.heap.size)] 70)
  rw [World.size_alloc] at ha
  have hm0 : MpT ((w.alloc (.map #[] 0)).alloc (.cells #[.int .i64 0, .int .i64 0, .map (some w.heap.size)] 70)) w.heap.size (Tb.nil : Tb Unit) (fun i _ => ptr (y.bx i)) := (MpT.made (w := w) _).kept ((Only.refl _ (fun _ => False)).alloc _) (fun q => q)
  have ho := (((Only.refl w (fun _ => False)).alloc (.map #[] 0)).alloc (.cells #[.int .i64 0, .int .i64 0, .map (some w.heap.size)] 70))
  have hl := (h0.ob .mh).2.lt
  have HM0 := Lib.hid hm0
  have HA := Lib.hid ha
  have HO := Lib.hid ho
  clear hm0 ha ho
  go_enter Try.func27, Try.ntmps27
  go_wp2_with (with_reducible refine wpList_mp_set rfl (.tmp 24) (.tmp 25) (.tmp 26) 49 rfl 3 71 Try.underlying3 Try.underlying49 _ _ _ rfl hmp (len1g hn) n rfl wf (ptr (w.heap.size + 1)) rfl _ rfl ?_; intro w1 m1 g1)
  go_ret
  have hb1 : (y.mh : Nat) ≠ w.heap.size + 1 := by omega
  have hb0 : (y.mh : Nat) ≠ w.heap.size := by omega
  have key := h0.newH e (w.heap.size + 1) w.heap.size (by omega) (Nat.le_refl _) (by omega) ((HO.out.mono (fun j q => q.elim)).tr (Only.grown (r := y.mh) g1 (Or.inl rfl)))
    (by rw [g1.block _ (lt_of_row HA.out) (by simpa using fun q => hb1 q.symm)]; exact HA.out) (HM0.out.kept (Only.grown (S := fun j => j = y.mh) g1 (Or.inl rfl)) (fun q => hb0 q.symm)) (by rw [e] at m1; exact m1)
  exact ⟨w.heap.size + 1, w.heap.size, _, by rw [(withH_at y n _ _).1]; rfl, key.1, key.2⟩

set_option maxRecDepth 100000 in
set_option maxHeartbeats 1600000 in
theorem c_put {w : World} {own : Nat → Option Tag} {y : Lay} {s : Vs} (h : Cor w own y s) {i : Int} {b : Bv} (e : s.bx i = some b) (hi : b.id = i) {g : Fv} (eg : s.fu.a b.fn = some g) {x : Hv} (ex : s.ho.a b.ho = some x) (wi : (KL i).wf = true) (wg : (KL b.fn).wf = true) (wx : (KL b.ho).wf = true) {c : Int} (hc : (g.on.a b.ho).getD 0 = c) (hc0 : 0 ≤ c) (hc1 : c ≤ 1099511627776) (hu0 : 0 ≤ x.used) (hu1 : x.used ≤ 4503599627370496) (hm0 : 0 ≤ g.mem) (hm1 : g.mem ≤ 4294967296) (hn1 : g.on.n < 1073741824) (hn2 : x.bo.n < 1073741824) (hn3 : s.mx.n < 1073741824) : Calls Try.prog 33 #[ptr y.v, ptr (y.bx i)] w fun e w' => e = .returned (.tuple #[]) ∧ To w own y { (s.setF b.fn { g with on := g.on.set b.ho (c + 1) }).setH b.ho { size := x.size, used := x.used + g.mem, bo := x.bo.set i () } with mx := s.mx.set i () } w' := by
  have N0 := Nx.refl w own
  have h0 := h
  clear h
  subst hi
  have hq := fun j => quiet_eq (c_host0 (h0.drewN j) ex wx)
  have q0 := h0.v1
  have q1 := h0.b1 e
  have q2 := h0.b2 e
  have q3 := fun y => (h0.drewN y).lf eg wg
  have q4 := h0.drew.lf eg wg
  have q5 := h0.lf eg wg
  go_enter Try.func33, Try.ntmps33
  go_wp2_with fail
  go_quiet ((first | (go_at_call 27; exact Calls.quiet_of_same (hq _))))
  have h1 := h0.drewN nq
  have N1 := N0.drewN nq
  clear q0 q1 q2 q3 q4 q5
  generalize w.drewN nq = w1 at h1 N1 ⊢
  clear h0 N0
  clear hq
  go_wp2_with fail
  have hw1 : IntKind.i64.wrap (c + 1) = c + 1 := wr_small (by omega) (by omega)
  have hw2 : IntKind.i64.wrap (x.used + g.mem) = x.used + g.mem := wr_small (by omega) (by omega)
  have q6 := h1.f1 eg
  have q7 := h1.b2 e
  have q8 := fun y => (h1.drewN y).lo eg hc wx
  have q9 := h1.drew.lo eg hc wx
  have q10 := h1.lo eg hc wx
  go_still_tail 10, (by kernel_rfl)
  change wpList _ _ _ _ _ w1.drew
  have h2 := h1.drew
  have N2 := N1.drew
  clear q6 q7 q8 q9 q10
  generalize w1.drew = w2 at h2 N2 ⊢
  clear h1 N1
  refine wpList_mp_set rfl (.tmp 24) (.tmp 28) (.tmp 30) 44 rfl 3 3 Try.underlying3 Try.underlying44 _ _ _ rfl ((h2.ob (.fo b.fn)) _ eg).2 (len1g hn1) b.ho rfl wx (.int .i64 (c + 1)) rfl _ rfl ?_
  intro w3 m3 g3
  obtain ⟨h3, n3⟩ := Cor.fo h2 eg (MpT.set (v := c + 1) m3) g3
  have N3 := N2.trans n3
  clear N2 n3 h2 m3 g3
  obtain ⟨s1, hs1⟩ : ∃ z : Vs, s.setF b.fn { g with on := g.on.set b.ho (c + 1) } = z := ⟨_, rfl⟩
  rw [hs1] at h3
  have e1 : s1.bx b.id = some b := by rw [← hs1]; exact e
  have eg1 : s1.fu.a b.fn = some { g with on := g.on.set b.ho (c + 1) } := by rw [← hs1]; exact setF_at _ _ _
  have ex1 : s1.ho.a b.ho = some x := by rw [← hs1]; exact ex
  have hmx : s1.mx = s.mx := by rw [← hs1] <;> rfl
  have Hs1 := Lib.hid hs1
  clear hs1
  have HMX := Lib.hid hmx
  clear hmx
  go_wp2_with fail
  have q11 := h3.h1 ex1
  have q12 := h3.f0 eg1
  go_still_tail 11, (by kernel_rfl)
  change wpList _ _ _ _ _ w3.drew
  have h4 := h3.drew
  have N4 := N3.drew
  clear q11 q12
  generalize w3.drew = w4 at h4 N4 ⊢
  clear h3 N3
  have hr := ((h4.ob (.hb b.ho)) _ ex1).2
  refine wpList_store_in rfl 3 (.tmp 41) (.tmp 39) rfl (by kernel_rfl) (y.hb b.ho) 1 rfl .i64 (x.used + g.mem) rfl _ _ hr (by simp [hrow]) ?_
  intro w5 m5 g5
  obtain ⟨h5, n5⟩ := Cor.hb h4 ex1 (z := x.size) (u := x.used + g.mem) m5.out g5
  have N5 := N4.trans n5
  clear hr N4 n5 h4 m5 g5
  obtain ⟨s2, hs2⟩ : ∃ z : Vs, s1.setH b.ho { x with size := x.size, used := x.used + g.mem } = z := ⟨_, rfl⟩
  rw [hs2] at h5
  have e2 : s2.bx b.id = some b := by rw [← hs2]; exact e1
  have ex2 : s2.ho.a b.ho = some { x with size := x.size, used := x.used + g.mem } := by rw [← hs2]; exact setH_at _ _ _
  have hmx : s2.mx = s.mx := by rw [← hs2]; exact HMX.out
  have Hs2 := Lib.hid hs2
  clear hs2
  have HMX2 := Lib.hid hmx
  clear hmx
  go_wp2_with fail
  have q13 := h5.h2 ex2
  have q14 := h5.b0 e2
  go_still_tail 9, (by kernel_rfl)
  change wpList _ _ _ _ _ w5.drew
  have h6 := h5.drew
  have N6 := N5.drew
  clear q13 q14
  generalize w5.drew = w6 at h6 N6 ⊢
  clear h5 N5
  refine wpList_mp_set rfl (.tmp 45) (.tmp 49) (.tmp 50) 50 rfl 3 64 Try.underlying3 Try.underlying50 _ _ _ rfl ((h6.ob (.hm b.ho)) _ ex2).2 (len1g hn2) b.id rfl wi (ptr (y.bx b.id)) rfl _ rfl ?_
  intro w7 m7 g7
  obtain ⟨h7, n7⟩ := Cor.hm h6 ex2 (MpT.set (v := ()) m7) g7
  have N7 := N6.trans n7
  clear N6 n7 h6 m7 g7
  have e3 : (s2.setH b.ho { size := x.size, used := x.used + g.mem, bo := x.bo.set b.id () }).bx b.id = some b := e2
  go_wp2_with fail
  have q15 := h7.v3
  have q16 := h7.b0 e3
  go_still_tail 9, (by kernel_rfl)
  change wpList _ _ _ _ _ w7.drew
  have h8 := h7.drew
  have N8 := N7.drew
  clear q15 q16
  generalize w7.drew = w8 at h8 N8 ⊢
  clear h7 N7
  refine wpList_mp_set rfl (.tmp 54) (.tmp 58) (.tmp 59) 50 rfl 3 64 Try.underlying3 Try.underlying50 _ _ _ rfl (h8.ob .mx).2 (len1g (by show s2.mx.n < _; rw [HMX2.out]; exact hn3)) b.id rfl wi (ptr (y.bx b.id)) rfl _ rfl ?_
  intro w9 m9 g9
  obtain ⟨h9, n9⟩ := Cor.mx h8 (MpT.set (v := ()) m9) g9
  have N9 := N8.trans n9
  clear N8 n9 h8 m9 g9
  go_wp2
  go_end0
  have fin : ({ s2.setH b.ho { size := x.size, used := x.used + g.mem, bo := x.bo.set b.id () } with mx := s2.mx.set b.id () } : Vs) = { (s.setF b.fn { g with on := g.on.set b.ho (c + 1) }).setH b.ho { size := x.size, used := x.used + g.mem, bo := x.bo.set b.id () } with mx := s.mx.set b.id () } := by
    rw [HMX2.out, ← Hs2.out, setH_setH, ← Hs1.out]
  exact ⟨rfl, _, by rw [← fin]; exact h9, N9⟩

set_option maxRecDepth 100000 in
set_option maxHeartbeats 1600000 in
theorem c_drop1 {w : World} {own : Nat → Option Tag} {y : Lay} {s : Vs} (h : Cor w own y s) {i : Int} {b : Bv} (e : s.bx i = some b) (hi : b.id = i) {g : Fv} (eg : s.fu.a b.fn = some g) {x : Hv} (ex : s.ho.a b.ho = some x) (wi : (KL i).wf = true) (wg : (KL b.fn).wf = true) (wx : (KL b.ho).wf = true) (hc : (g.on.a b.ho).getD 0 = 1) (hu0 : 0 ≤ x.used) (hu1 : x.used ≤ 4503599627370496) (hm0 : 0 ≤ g.mem) (hm1 : g.mem ≤ 4294967296) (hn1 : g.on.n < 1073741824) : Calls Try.prog 34 #[ptr y.v, ptr (y.bx i)] w fun e w' => e = .returned (.tuple #[]) ∧ ∃ own', Cor w' own' y { (s.setF b.fn { g with on := (g.on.set b.ho 0).del b.ho }).setH b.ho { size := x.size, used := x.used - g.mem, bo := x.bo.del b.id } with mx := s.mx.del b.id } ∧ Nx w own w' own' ∧ ∀ r c0 left cnt, own r = none → Ri Try.prog 3 w (y.hm b.ho) r (fun z => (x.bo.a z).map (fun _ => ptr (y.bx z))) c0 left cnt → ∃ cnt', cnt' ≤ cnt ∧ ∃ c1, Ri Try.prog 3 w' (y.hm b.ho) r (updZ (fun z => (x.bo.a z).map (fun _ => ptr (y.bx z))) b.id none) c1 (fun z => left z && !(z == b.id)) cnt' := by
  have N0 := Nx.refl w own
  have h0 := h
  clear h
  subst hi
  have hq := fun j => quiet_eq (c_host0 (h0.drewN j) ex wx)
  have q0 := h0.v1
  have q1 := h0.b1 e
  have q2 := h0.b2 e
  have q3 := fun y => (h0.drewN y).lf eg wg
  have q4 := h0.drew.lf eg wg
  have q5 := h0.lf eg wg
  go_enter Try.func34, Try.ntmps34
  go_wp2_with fail
  go_quiet ((first | (go_at_call 27; exact Calls.quiet_of_same (hq _))))
  have h1 := h0.drewN nq
  have N1 := N0.drewN nq
  clear q0 q1 q2 q3 q4 q5
  have E1 : Hid ((w.drewN nq).heap[y.hm b.ho]? = w.heap[y.hm b.ho]?) := rfl
  generalize w.drewN nq = w1 at h1 N1 E1 ⊢
  clear h0 N0
  clear hq
  go_wp2_with fail
  have hw1 : IntKind.i64.wrap (1 - 1) = 0 := by decide
  have hw2 : IntKind.i64.wrap (x.used - g.mem) = x.used - g.mem := wr_small (by omega) (by omega)
  have q6 := h1.f1 eg
  have q7 := h1.b2 e
  have q8 := fun y => (h1.drewN y).lo eg hc wx
  have q9 := h1.drew.lo eg hc wx
  have q10 := h1.lo eg hc wx
  go_still_tail 10, (by kernel_rfl)
  change wpList _ _ _ _ _ w1.drew
  have h2 := h1.drew
  have N2 := N1.drew
  clear q6 q7 q8 q9 q10
  have E2 : Hid (w1.drew.heap[y.hm b.ho]? = w.heap[y.hm b.ho]?) := E1
  clear E1
  generalize w1.drew = w2 at h2 N2 E2 ⊢
  clear h1 N1
  refine wpList_mp_set rfl (.tmp 24) (.tmp 28) (.tmp 30) 44 rfl 3 3 Try.underlying3 Try.underlying44 _ _ _ rfl ((h2.ob (.fo b.fn)) _ eg).2 (len1g hn1) b.ho rfl wx (.int .i64 0) rfl _ rfl ?_
  intro w3 m3 g3
  obtain ⟨h3, n3⟩ := Cor.fo h2 eg (MpT.set (v := 0) m3) g3
  have N3 := N2.trans n3
  have E3 : Hid (w3.heap[y.hm b.ho]? = w.heap[y.hm b.ho]?) := Lib.hid ((g3.block _ ((h2.ob (.hm b.ho)) _ ex).2.lt (by simpa using tag_ne ((h2.ob (.hm b.ho)) _ ex).1 ((h2.ob (.fo b.fn)) _ eg).1 (by simp))).trans E2.out)
  clear E2
  clear N2 n3 h2 m3 g3
  obtain ⟨s1, hs1⟩ : ∃ z : Vs, s.setF b.fn { g with on := g.on.set b.ho 0 } = z := ⟨_, rfl⟩
  rw [hs1] at h3
  have e1 : s1.bx b.id = some b := by rw [← hs1]; exact e
  have eg1 : s1.fu.a b.fn = some { g with on := g.on.set b.ho 0 } := by rw [← hs1]; exact setF_at _ _ _
  have ex1 : s1.ho.a b.ho = some x := by rw [← hs1]; exact ex
  have hmx : s1.mx = s.mx := by rw [← hs1] <;> rfl
  have Hs1 := Lib.hid hs1
  clear hs1
  have HMX := Lib.hid hmx
  clear hmx
  have hc1 : (({ g with on := g.on.set b.ho 0 } : Fv).on.a b.ho).getD 0 = 0 := by show ((g.on.set b.ho _).a b.ho).getD 0 = _; rw [Tb.set_at]; rfl
  go_wp2_with fail
  have q11 := h3.f1 eg1
  have q12 := h3.b2 e1
  have q13 := fun y => (h3.drewN y).lo eg1 hc1 wx
  have q14 := h3.drew.lo eg1 hc1 wx
  have q15 := h3.lo eg1 hc1 wx
  go_quiet (fail)
  have h4 := h3.drewN nq
  have N4 := N3.drewN nq
  clear q11 q12 q13 q14 q15
  have E4 : Hid ((w3.drewN nq).heap[y.hm b.ho]? = w.heap[y.hm b.ho]?) := E3
  clear E3
  generalize w3.drewN nq = w4 at h4 N4 E4 ⊢
  clear h3 N3
  go_wp2_with fail
  have q16 := h4.f1 eg1
  have q17 := h4.b2 e1
  go_still_tail 8, (by kernel_rfl)
  change wpList _ _ _ _ _ w4.drew
  have h5 := h4.drew
  have N5 := N4.drew
  clear q16 q17
  have E5 : Hid (w4.drew.heap[y.hm b.ho]? = w.heap[y.hm b.ho]?) := E4
  clear E4
  generalize w4.drew = w5 at h5 N5 E5 ⊢
  clear h4 N4
  refine wpList_mp_del rfl (.tmp 44) (.tmp 48) 44 3 rfl 3 Try.underlying3 Try.underlying44 _ _ _ rfl ((h5.ob (.fo b.fn)) _ eg1).2 b.ho rfl wx _ rfl ?_
  intro w6 m6 g6
  obtain ⟨h6, n6⟩ := Cor.fo h5 eg1 (MpT.del m6) g6
  have N6 := N5.trans n6
  have E6 : Hid (w6.heap[y.hm b.ho]? = w.heap[y.hm b.ho]?) := Lib.hid ((g6.block _ ((h5.ob (.hm b.ho)) _ ex1).2.lt (by simpa using tag_ne ((h5.ob (.hm b.ho)) _ ex1).1 ((h5.ob (.fo b.fn)) _ eg1).1 (by simp))).trans E5.out)
  clear E5
  clear N5 n6 h5 m6 g6
  obtain ⟨s2, hs2⟩ : ∃ z : Vs, s1.setF b.fn { mem := g.mem, on := (g.on.set b.ho 0).del b.ho } = z := ⟨_, rfl⟩
  rw [hs2] at h6
  have e2 : s2.bx b.id = some b := by rw [← hs2]; exact e1
  have eg2 : s2.fu.a b.fn = some { mem := g.mem, on := (g.on.set b.ho 0).del b.ho } := by rw [← hs2]; exact setF_at _ _ _
  have ex2 : s2.ho.a b.ho = some x := by rw [← hs2]; exact ex1
  have hmx2 : s2.mx = s.mx := by rw [← hs2]; exact HMX.out
  have Hs2 := Lib.hid hs2
  clear hs2
  have HMX2 := Lib.hid hmx2
  clear hmx2 e1 eg1 ex1
  go_wp2_with fail
  have q18 := h6.h1 ex2
  have q19 := h6.f0 eg2
  go_still_tail 11, (by kernel_rfl)
  change wpList _ _ _ _ _ w6.drew
  have h7 := h6.drew
  have N7 := N6.drew
  clear q18 q19
  have E7 : Hid (w6.drew.heap[y.hm b.ho]? = w.heap[y.hm b.ho]?) := E6
  clear E6
  generalize w6.drew = w7 at h7 N7 E7 ⊢
  clear h6 N6
  have hr := ((h7.ob (.hb b.ho)) _ ex2).2
  refine wpList_store_in rfl 3 (.tmp 59) (.tmp 57) rfl (by kernel_rfl) (y.hb b.ho) 1 rfl .i64 (x.used - g.mem) rfl _ _ hr (by simp [hrow]) ?_
  intro w8 m8 g8
  obtain ⟨h8, n8⟩ := Cor.hb h7 ex2 (z := x.size) (u := x.used - g.mem) m8.out g8
  have N8 := N7.trans n8
  have E8 : Hid (w8.heap[y.hm b.ho]? = w.heap[y.hm b.ho]?) := Lib.hid ((g8.block _ ((h7.ob (.hm b.ho)) _ ex2).2.lt (by simpa using tag_ne ((h7.ob (.hm b.ho)) _ ex2).1 ((h7.ob (.hb b.ho)) _ ex2).1 (by simp))).trans E7.out)
  clear E7
  clear hr N7 n8 h7 m8 g8
  obtain ⟨s3, hs3⟩ : ∃ z : Vs, s2.setH b.ho { x with size := x.size, used := x.used - g.mem } = z := ⟨_, rfl⟩
  rw [hs3] at h8
  have e3 : s3.bx b.id = some b := by rw [← hs3]; exact e2
  have ex3 : s3.ho.a b.ho = some { x with size := x.size, used := x.used - g.mem } := by rw [← hs3]; exact setH_at _ _ _
  have hmx3 : s3.mx = s.mx := by rw [← hs3]; exact HMX2.out
  have Hs3 := Lib.hid hs3
  clear hs3
  have HMX3 := Lib.hid hmx3
  clear hmx3
  go_wp2_with fail
  have q20 := h8.h2 ex3
  have q21 := h8.b0 e3
  go_still_tail 8, (by kernel_rfl)
  change wpList _ _ _ _ _ w8.drew
  have h9 := h8.drew
  have N9 := N8.drew
  clear q20 q21
  have E9 : Hid (w8.drew.heap[y.hm b.ho]? = w.heap[y.hm b.ho]?) := E8
  clear E8
  generalize w8.drew = w9 at h9 N9 E9 ⊢
  clear h8 N8
  have hmm := ((h9.ob (.hm b.ho)) _ ex3).2
  refine wpList_mp_delr rfl (.tmp 63) (.tmp 67) 50 3 rfl 64 Try.underlying3 Try.underlying50 _ _ _ rfl hmm b.id rfl wi _ rfl ?_
  intro w10 m10 g10 R10
  obtain ⟨h10, n10⟩ := Cor.hm h9 ex3 (MpT.del m10) g10
  have N10 := N9.trans n10
  have RR : Hid (∀ r c0 left cnt, own r = none → Ri Try.prog 3 w (y.hm b.ho) r (fun z => (x.bo.a z).map (fun _ => ptr (y.bx z))) c0 left cnt → ∃ cnt', cnt' ≤ cnt ∧ ∃ c1, Ri Try.prog 3 w10 (y.hm b.ho) r (updZ (fun z => (x.bo.a z).map (fun _ => ptr (y.bx z))) b.id none) c1 (fun z => left z && !(z == b.id)) cnt') := by
    refine Lib.hid (fun r c0 left cnt hr hR => R10.out r c0 left cnt ?_)
    exact Ri.same hR E9.out (N9.only.block r hR.ne.2 (fun q => q hr))
  clear E9 hmm
  clear N9 n10 h9 m10 g10 R10
  have e4 : (s3.setH b.ho { size := x.size, used := x.used - g.mem, bo := x.bo.del b.id }).bx b.id = some b := e3
  have ex4 : (s3.setH b.ho { size := x.size, used := x.used - g.mem, bo := x.bo.del b.id }).ho.a b.ho = some { size := x.size, used := x.used - g.mem, bo := x.bo.del b.id } := setH_at _ _ _
  go_wp2_with fail
  have q22 := h10.v3
  have q23 := h10.b0 e4
  go_still_tail 8, (by kernel_rfl)
  change wpList _ _ _ _ _ w10.drew
  have h11 := h10.drew
  have N11 := N10.drew
  clear q22 q23
  have RRn : Hid (∀ r c0 left cnt, own r = none → Ri Try.prog 3 w (y.hm b.ho) r (fun z => (x.bo.a z).map (fun _ => ptr (y.bx z))) c0 left cnt → ∃ cnt', cnt' ≤ cnt ∧ ∃ c1, Ri Try.prog 3 w10.drew (y.hm b.ho) r (updZ (fun z => (x.bo.a z).map (fun _ => ptr (y.bx z))) b.id none) c1 (fun z => left z && !(z == b.id)) cnt') := RR
  clear RR
  generalize w10.drew = w11 at h11 N11 RRn ⊢
  clear h10 N10
  have RR := RRn
  clear RRn
  refine wpList_mp_del rfl (.tmp 71) (.tmp 75) 50 3 rfl 64 Try.underlying3 Try.underlying50 _ _ _ rfl (h11.ob .mx).2 b.id rfl wi _ rfl ?_
  intro w12 m12 g12
  obtain ⟨h12, n12⟩ := Cor.mx h11 (MpT.del m12) g12
  have N12 := N11.trans n12
  have hne := tag_ne ((h11.ob (.hm b.ho)) _ ex4).1 (h11.ob .mx).1 (by simp)
  have hlt := ((h11.ob (.hm b.ho)) _ ex4).2.lt
  have hN := fun (r : Nat) (hr : own r = none) (hl : r < w.heap.size) => N11.none hr hl
  have R3 : Hid (∀ r c0 left cnt, own r = none → r < w.heap.size → Ri Try.prog 3 w11 (y.hm b.ho) r (updZ (fun z => (x.bo.a z).map (fun _ => ptr (y.bx z))) b.id none) c0 left cnt → Ri Try.prog 3 w12 (y.hm b.ho) r (updZ (fun z => (x.bo.a z).map (fun _ => ptr (y.bx z))) b.id none) c0 left cnt) :=
    Lib.hid (fun r c0 left cnt hr hl hR => Ri.same hR (g12.block _ hlt (by simpa using hne)) (g12.block _ hR.ne.2 (by simpa using fun q : r = y.mx => by have := hN r hr hl; rw [q, (h11.ob .mx).1] at this; cases this)))
  clear N11 n12 m12 g12 hne hlt hN
  go_wp2
  go_end0
  have fin : ({ s3.setH b.ho { size := x.size, used := x.used - g.mem, bo := x.bo.del b.id } with mx := s3.mx.del b.id } : Vs) = { (s.setF b.fn { g with on := (g.on.set b.ho 0).del b.ho }).setH b.ho { size := x.size, used := x.used - g.mem, bo := x.bo.del b.id } with mx := s.mx.del b.id } := by
    rw [HMX3.out, ← Hs3.out, setH_setH, ← Hs2.out, ← Hs1.out, setF_setF]
  refine ⟨rfl, _, by rw [← fin]; exact h12, N12, fun r c0 left cnt hr hR => ?_⟩
  obtain ⟨cnt', a1, c1, a2⟩ := RR.out r c0 left cnt hr hR
  exact ⟨cnt', a1, c1, R3.out r c1 _ cnt' hr hR.ne.2 a2⟩

set_option maxRecDepth 100000 in
set_option maxHeartbeats 1600000 in
theorem c_dropN {w : World} {own : Nat → Option Tag} {y : Lay} {s : Vs} (h : Cor w own y s) {i : Int} {b : Bv} (e : s.bx i = some b) (hi : b.id = i) {g : Fv} (eg : s.fu.a b.fn = some g) {x : Hv} (ex : s.ho.a b.ho = some x) (wi : (KL i).wf = true) (wg : (KL b.fn).wf = true) (wx : (KL b.ho).wf = true) {c : Int} (hc : (g.on.a b.ho).getD 0 = c) (hc0 : 1 < c) (hc1 : c ≤ 1099511627776) (hu0 : 0 ≤ x.used) (hu1 : x.used ≤ 4503599627370496) (hm0 : 0 ≤ g.mem) (hm1 : g.mem ≤ 4294967296) (hn1 : g.on.n < 1073741824) : Calls Try.prog 34 #[ptr y.v, ptr (y.bx i)] w fun e w' => e = .returned (.tuple #[]) ∧ ∃ own', Cor w' own' y { (s.setF b.fn { g with on := g.on.set b.ho (c - 1) }).setH b.ho { size := x.size, used := x.used - g.mem, bo := x.bo.del b.id } with mx := s.mx.del b.id } ∧ Nx w own w' own' ∧ ∀ r c0 left cnt, own r = none → Ri Try.prog 3 w (y.hm b.ho) r (fun z => (x.bo.a z).map (fun _ => ptr (y.bx z))) c0 left cnt → ∃ cnt', cnt' ≤ cnt ∧ ∃ c1, Ri Try.prog 3 w' (y.hm b.ho) r (updZ (fun z => (x.bo.a z).map (fun _ => ptr (y.bx z))) b.id none) c1 (fun z => left z && !(z == b.id)) cnt' := by
  have N0 := Nx.refl w own
  have h0 := h
  clear h
  subst hi
  have hq := fun j => quiet_eq (c_host0 (h0.drewN j) ex wx)
  have q0 := h0.v1
  have q1 := h0.b1 e
  have q2 := h0.b2 e
  have q3 := fun y => (h0.drewN y).lf eg wg
  have q4 := h0.drew.lf eg wg
  have q5 := h0.lf eg wg
  go_enter Try.func34, Try.ntmps34
  go_wp2_with fail
  go_quiet ((first | (go_at_call 27; exact Calls.quiet_of_same (hq _))))
  have h1 := h0.drewN nq
  have N1 := N0.drewN nq
  clear q0 q1 q2 q3 q4 q5
  have E1 : Hid ((w.drewN nq).heap[y.hm b.ho]? = w.heap[y.hm b.ho]?) := rfl
  generalize w.drewN nq = w1 at h1 N1 E1 ⊢
  clear h0 N0
  clear hq
  go_wp2_with fail
  have hw1 : IntKind.i64.wrap (c - 1) = c - 1 := wr_small (by omega) (by omega)
  have hz : (c - 1 == 0) = false := beq_false_of_ne (by omega)
  have hw2 : IntKind.i64.wrap (x.used - g.mem) = x.used - g.mem := wr_small (by omega) (by omega)
  have q6 := h1.f1 eg
  have q7 := h1.b2 e
  have q8 := fun y => (h1.drewN y).lo eg hc wx
  have q9 := h1.drew.lo eg hc wx
  have q10 := h1.lo eg hc wx
  go_still_tail 10, (by kernel_rfl)
  change wpList _ _ _ _ _ w1.drew
  have h2 := h1.drew
  have N2 := N1.drew
  clear q6 q7 q8 q9 q10
  have E2 : Hid (w1.drew.heap[y.hm b.ho]? = w.heap[y.hm b.ho]?) := E1
  clear E1
  generalize w1.drew = w2 at h2 N2 E2 ⊢
  clear h1 N1
  refine wpList_mp_set rfl (.tmp 24) (.tmp 28) (.tmp 30) 44 rfl 3 3 Try.underlying3 Try.underlying44 _ _ _ rfl ((h2.ob (.fo b.fn)) _ eg).2 (len1g hn1) b.ho rfl wx (.int .i64 (c - 1)) rfl _ rfl ?_
  intro w3 m3 g3
  obtain ⟨h3, n3⟩ := Cor.fo h2 eg (MpT.set (v := (c - 1)) m3) g3
  have N3 := N2.trans n3
  have E3 : Hid (w3.heap[y.hm b.ho]? = w.heap[y.hm b.ho]?) := Lib.hid ((g3.block _ ((h2.ob (.hm b.ho)) _ ex).2.lt (by simpa using tag_ne ((h2.ob (.hm b.ho)) _ ex).1 ((h2.ob (.fo b.fn)) _ eg).1 (by simp))).trans E2.out)
  clear E2
  clear N2 n3 h2 m3 g3
  obtain ⟨s1, hs1⟩ : ∃ z : Vs, s.setF b.fn { g with on := g.on.set b.ho (c - 1) } = z := ⟨_, rfl⟩
  rw [hs1] at h3
  have e1 : s1.bx b.id = some b := by rw [← hs1]; exact e
  have eg1 : s1.fu.a b.fn = some { g with on := g.on.set b.ho (c - 1) } := by rw [← hs1]; exact setF_at _ _ _
  have ex1 : s1.ho.a b.ho = some x := by rw [← hs1]; exact ex
  have hmx : s1.mx = s.mx := by rw [← hs1] <;> rfl
  have Hs1 := Lib.hid hs1
  clear hs1
  have HMX := Lib.hid hmx
  clear hmx
  have hc1 : (({ g with on := g.on.set b.ho (c - 1) } : Fv).on.a b.ho).getD 0 = (c - 1) := by show ((g.on.set b.ho _).a b.ho).getD 0 = _; rw [Tb.set_at]; rfl
  go_wp2_with fail
  have q11 := h3.f1 eg1
  have q12 := h3.b2 e1
  have q13 := fun y => (h3.drewN y).lo eg1 hc1 wx
  have q14 := h3.drew.lo eg1 hc1 wx
  have q15 := h3.lo eg1 hc1 wx
  go_quiet (fail)
  have h4 := h3.drewN nq
  have N4 := N3.drewN nq
  clear q11 q12 q13 q14 q15
  have E4 : Hid ((w3.drewN nq).heap[y.hm b.ho]? = w.heap[y.hm b.ho]?) := E3
  clear E3
  generalize w3.drewN nq = w4 at h4 N4 E4 ⊢
  clear h3 N3
  obtain ⟨s2, hs2⟩ : ∃ z, s1 = z := ⟨_, rfl⟩
  have e2 := e1
  have eg2 := eg1
  have ex2 := ex1
  have hmx2 := HMX.out
  rw [hs2] at h4 e2 eg2 ex2 hmx2
  have Hs2 := Lib.hid hs2
  clear hs2
  have HMX2 := Lib.hid hmx2
  clear hmx2 e1 eg1 ex1
  go_wp2_with fail
  have q16 := h4.h1 ex2
  have q17 := h4.f0 eg2
  go_still_tail 11, (by kernel_rfl)
  change wpList _ _ _ _ _ w4.drew
  have h5 := h4.drew
  have N5 := N4.drew
  clear q16 q17
  have E5 : Hid (w4.drew.heap[y.hm b.ho]? = w.heap[y.hm b.ho]?) := E4
  clear E4
  generalize w4.drew = w5 at h5 N5 E5 ⊢
  clear h4 N4
  have hr := ((h5.ob (.hb b.ho)) _ ex2).2
  refine wpList_store_in rfl 3 (.tmp 59) (.tmp 57) rfl (by kernel_rfl) (y.hb b.ho) 1 rfl .i64 (x.used - g.mem) rfl _ _ hr (by simp [hrow]) ?_
  intro w6 m6 g6
  obtain ⟨h6, n6⟩ := Cor.hb h5 ex2 (z := x.size) (u := x.used - g.mem) m6.out g6
  have N6 := N5.trans n6
  have E6 : Hid (w6.heap[y.hm b.ho]? = w.heap[y.hm b.ho]?) := Lib.hid ((g6.block _ ((h5.ob (.hm b.ho)) _ ex2).2.lt (by simpa using tag_ne ((h5.ob (.hm b.ho)) _ ex2).1 ((h5.ob (.hb b.ho)) _ ex2).1 (by simp))).trans E5.out)
  clear E5
  clear hr N5 n6 h5 m6 g6
  obtain ⟨s3, hs3⟩ : ∃ z : Vs, s2.setH b.ho { x with size := x.size, used := x.used - g.mem } = z := ⟨_, rfl⟩
  rw [hs3] at h6
  have e3 : s3.bx b.id = some b := by rw [← hs3]; exact e2
  have ex3 : s3.ho.a b.ho = some { x with size := x.size, used := x.used - g.mem } := by rw [← hs3]; exact setH_at _ _ _
  have hmx3 : s3.mx = s.mx := by rw [← hs3]; exact HMX2.out
  have Hs3 := Lib.hid hs3
  clear hs3
  have HMX3 := Lib.hid hmx3
  clear hmx3
  go_wp2_with fail
  have q18 := h6.h2 ex3
  have q19 := h6.b0 e3
  go_still_tail 8, (by kernel_rfl)
  change wpList _ _ _ _ _ w6.drew
  have h7 := h6.drew
  have N7 := N6.drew
  clear q18 q19
  have E7 : Hid (w6.drew.heap[y.hm b.ho]? = w.heap[y.hm b.ho]?) := E6
  clear E6
  generalize w6.drew = w7 at h7 N7 E7 ⊢
  clear h6 N6
  have hmm := ((h7.ob (.hm b.ho)) _ ex3).2
  refine wpList_mp_delr rfl (.tmp 63) (.tmp 67) 50 3 rfl 64 Try.underlying3 Try.underlying50 _ _ _ rfl hmm b.id rfl wi _ rfl ?_
  intro w8 m8 g8 R8
  obtain ⟨h8, n8⟩ := Cor.hm h7 ex3 (MpT.del m8) g8
  have N8 := N7.trans n8
  have RR : Hid (∀ r c0 left cnt, own r = none → Ri Try.prog 3 w (y.hm b.ho) r (fun z => (x.bo.a z).map (fun _ => ptr (y.bx z))) c0 left cnt → ∃ cnt', cnt' ≤ cnt ∧ ∃ c1, Ri Try.prog 3 w8 (y.hm b.ho) r (updZ (fun z => (x.bo.a z).map (fun _ => ptr (y.bx z))) b.id none) c1 (fun z => left z && !(z == b.id)) cnt') := by
    refine Lib.hid (fun r c0 left cnt hr hR => R8.out r c0 left cnt ?_)
    exact Ri.same hR E7.out (N7.only.block r hR.ne.2 (fun q => q hr))
  clear E7 hmm
  clear N7 n8 h7 m8 g8 R8
  have e4 : (s3.setH b.ho { size := x.size, used := x.used - g.mem, bo := x.bo.del b.id }).bx b.id = some b := e3
  have ex4 : (s3.setH b.ho { size := x.size, used := x.used - g.mem, bo := x.bo.del b.id }).ho.a b.ho = some { size := x.size, used := x.used - g.mem, bo := x.bo.del b.id } := setH_at _ _ _
  go_wp2_with fail
  have q20 := h8.v3
  have q21 := h8.b0 e4
  go_still_tail 8, (by kernel_rfl)
  change wpList _ _ _ _ _ w8.drew
  have h9 := h8.drew
  have N9 := N8.drew
  clear q20 q21
  have RRn : Hid (∀ r c0 left cnt, own r = none → Ri Try.prog 3 w (y.hm b.ho) r (fun z => (x.bo.a z).map (fun _ => ptr (y.bx z))) c0 left cnt → ∃ cnt', cnt' ≤ cnt ∧ ∃ c1, Ri Try.prog 3 w8.drew (y.hm b.ho) r (updZ (fun z => (x.bo.a z).map (fun _ => ptr (y.bx z))) b.id none) c1 (fun z => left z && !(z == b.id)) cnt') := RR
  clear RR
  generalize w8.drew = w9 at h9 N9 RRn ⊢
  clear h8 N8
  have RR := RRn
  clear RRn
  refine wpList_mp_del rfl (.tmp 71) (.tmp 75) 50 3 rfl 64 Try.underlying3 Try.underlying50 _ _ _ rfl (h9.ob .mx).2 b.id rfl wi _ rfl ?_
  intro w10 m10 g10
  obtain ⟨h10, n10⟩ := Cor.mx h9 (MpT.del m10) g10
  have N10 := N9.trans n10
  have hne := tag_ne ((h9.ob (.hm b.ho)) _ ex4).1 (h9.ob .mx).1 (by simp)
  have hlt := ((h9.ob (.hm b.ho)) _ ex4).2.lt
  have hN := fun (r : Nat) (hr : own r = none) (hl : r < w.heap.size) => N9.none hr hl
  have R3 : Hid (∀ r c0 left cnt, own r = none → r < w.heap.size → Ri Try.prog 3 w9 (y.hm b.ho) r (updZ (fun z => (x.bo.a z).map (fun _ => ptr (y.bx z))) b.id none) c0 left cnt → Ri Try.prog 3 w10 (y.hm b.ho) r (updZ (fun z => (x.bo.a z).map (fun _ => ptr (y.bx z))) b.id none) c0 left cnt) :=
    Lib.hid (fun r c0 left cnt hr hl hR => Ri.same hR (g10.block _ hlt (by simpa using hne)) (g10.block _ hR.ne.2 (by simpa using fun q : r = y.mx => by have := hN r hr hl; rw [q, (h9.ob .mx).1] at this; cases this)))
  clear N9 n10 m10 g10 hne hlt hN
  go_wp2
  go_end0
  have fin : ({ s3.setH b.ho { size := x.size, used := x.used - g.mem, bo := x.bo.del b.id } with mx := s3.mx.del b.id } : Vs) = { (s.setF b.fn { g with on := g.on.set b.ho (c - 1) }).setH b.ho { size := x.size, used := x.used - g.mem, bo := x.bo.del b.id } with mx := s.mx.del b.id } := by
    rw [HMX3.out, ← Hs3.out, setH_setH, ← Hs2.out, ← Hs1.out]
  refine ⟨rfl, _, by rw [← fin]; exact h10, N10, fun r c0 left cnt hr hR => ?_⟩
  obtain ⟨cnt', a1, c1, a2⟩ := RR.out r c0 left cnt hr hR
  exact ⟨cnt', a1, c1, R3.out r c1 _ cnt' hr hR.ne.2 a2⟩

end Go.Proofs.Ytgpookphacdgoaa.W.U
