/- Package warm: Set, Worth, Least, Evict. -/
import Derived.Test.YtpagleilaaljoaaWarmA
namespace Go.Proofs.Ytpagleilaaljoaa.W.HR
open Go.RowKit
open Go.Proofs.Ytpagleilaaljoaa.R (above_yes above_no floor_any Fits U64 Rat)

theorem mul_u64 {o k y : Nat} (hy : y = o * k) (h : y < 18446744073709551616) : IntKind.u64.wrap ((o : Int) * (k : Int)) = (y : Int) := by
  rw [IntKind.wrap_u64, ← Int.natCast_mul, ← hy]; omega

/-- Behind Set. -/
theorem Ca.put {P : Nat → Prop} {w w' : World} {c r cl n n1 : Nat} {A : Int → Option V} {Y Y' : Nat → Prop} {k : Int} {u m : Nat} (h : Ca w c r cl n A Y) (hY : ∀ j, Y j → P j) (hP : ∀ j, w.heap.size ≤ j → P j) (g1 : Ob w' r F45 n1 (updZ A k (some (u, m, k))) Y') (g2 : ∀ j, Y' j → Y j ∨ w.heap.size ≤ j) (g5 : Only w w' (fun j => Y j ∨ False)) :
    Ca w' c r cl n1 (updZ A k (some (u, m, k))) Y' ∧ ∀ j, Y' j → P j := by
  have hc := lt_of_row h.blk
  refine ⟨⟨g5.blk (fun q => q.elim h.ne id) h.blk, g1, fun q => ?_, fun k' v q => ?_⟩, fun j q => ?_⟩
  · rcases g2 c q with q | q
    · exact h.ne q
    · omega
  · unfold updZ at q; split at q
    · rename_i e; cases q; exact e.symm
    · exact h.ids k' v q
  · rcases g2 j q with q | q
    · exact hY j q
    · exact hP j q

set_option maxRecDepth 100000 in
set_option maxHeartbeats 1600000 in
theorem w_set0 {P : Nat → Prop} (w : World) (c cl n : Nat) (A : Int → Option V) (id : Int) (o k : Nat) (h : Cq P w c cl n A) (hcl : cl < 18446744073709551616) (hok : o * k < 18446744073709551616) :
    Calls Try.prog 26 #[.pointer (some ⟨c, 0, none⟩), .int .i64 id, .int .u64 (o : Int), .int .u64 (k : Int), .int .u64 0] w fun e w' => e = .returned (.bool false) ∧ Below w.heap.size w w' := by
  have c1 := h.clock
  obtain ⟨y, hy⟩ : ∃ y, y = o * k := ⟨_, rfl⟩
  have hm := mul_u64 hy (by omega)
  have hab := fun w => above_no (cl : Int) (y : Int) 0 (u64n hcl) (u64n (by omega)) ⟨by decide, by decide⟩ (by intro q; exact absurd q.1 (by decide)) w
  clear h hy hok
  go_enter Try.func26, Try.ntmps26
  go_wp2_with fail
  refine (hab _).mono ?_
  rintro e w1 ⟨rfl, x, rfl⟩
  go_wp2_with fail
  go_ret
  exact ⟨rfl, ((Below.refl _ _).alloc (Nat.le_refl _) _).alloc (by simp <;> omega) _⟩

set_option maxRecDepth 100000 in
set_option maxHeartbeats 1600000 in
theorem w_set {P : Nat → Prop} (w : World) (c cl n : Nat) (A : Int → Option V) (id : Int) (o k m u : Nat) (h : Cq P w c cl n A) (hid : (KL id).wf = true) (hcl : cl < 18446744073709551616) (hok : o * k < 18446744073709551616) (hm0 : 0 < m) (hm1 : m < 18446744073709551616) (hu : u = cl * m + o * k) (hu64 : u < 18446744073709551616) (hn : n < 1073741823) (n' : Nat) (hn' : n' = if (A id).isSome then n else n + 1) (hP : ∀ j, w.heap.size ≤ j → P j) :
    Calls Try.prog 26 #[.pointer (some ⟨c, 0, none⟩), .int .i64 id, .int .u64 (o : Int), .int .u64 (k : Int), .int .u64 (m : Int)] w fun e w' => e = .returned (.bool true) ∧ Cq P w' c cl n' (updZ A id (some (u, m, id))) ∧ Only w w' P := by
  have c1 := h.clock
  have hclt := h.lt
  obtain ⟨y, hy⟩ : ∃ y, y = o * k := ⟨_, rfl⟩
  have hm := mul_u64 hy (by omega)
  have huI : (cl : Int) * (m : Int) + (y : Int) = (u : Int) := by rw [hu, hy]; simp
  have hab := fun w => above_yes (cl : Int) (y : Int) (m : Int) (u64n hcl) (u64n (by omega)) (u64n hm1) ⟨by omega, by rw [huI]; omega⟩ w
  rw [huI] at hab
  have hokv : ok (u, m, id) := ⟨hu64, hm0, hm1, hid⟩
  have HN' := Lib.hid hn'
  clear hy hok hu hn' huI
  go_enter Try.func26, Try.ntmps26
  go_wp2_with fail
  refine (hab _).mono ?_
  rintro e w1 ⟨rfl, x, hw1⟩
  have b1 : Below w.heap.size w w1 := by rw [← hw1]; exact (Below.refl _ _).alloc (Nat.le_refl _) _
  clear hab hw1
  go_upto_region 4 with (fail)
  have b2 : Below w.heap.size w (w1.alloc (.cells #[.int .u64 (u : Int), .int .u64 (m : Int)] 53)) := b1.trans (((Below.refl w1.heap.size w1).alloc (Nat.le_refl _) _).mono b1.size)
  have HBX := Lib.hid (heap_alloc_new w1 (.cells #[.int .u64 (u : Int), .int .u64 (m : Int)] 53))
  obtain ⟨H, hH⟩ : ∃ H, w1.heap.size = H := ⟨_, rfl⟩
  have hHw : w.heap.size ≤ H := by rw [← hH]; exact b1.size
  rw [hH] at HBX
  rw [hH]
  have hx : Cq (fun j => P j ∧ j ≠ H) (w1.alloc (.cells #[.int .u64 (u : Int), .int .u64 (m : Int)] 53)) c cl n A := (h.tight.below b2).mono (fun j q => ⟨q.1, by omega⟩)
  clear hH c1
  have hHlt := lt_of_row HBX.out
  generalize w1.alloc (.cells #[.int .u64 (u : Int), .int .u64 (m : Int)] 53) = w2 at b2 HBX hx hHlt ⊢
  have hPx : ∀ j, w2.heap.size ≤ j → (fun j => P j ∧ j ≠ H) j := fun j q => ⟨hP j (Nat.le_trans b2.size q), by omega⟩
  have e0 := cell_of_row _ _ 0 _ _ _ HBX.out
  have e1 := cell_of_row _ _ 1 _ _ _ HBX.out
  have hHc : H ≠ c := by omega
  have hxd : Cq (fun j => P j ∧ j ≠ H) w2.drew c cl n A := hx.kept ((Only.refl w2 (fun _ => False)).drewN 1) (fun _ _ q => q)
  have hPd : ∀ j, w2.drew.heap.size ≤ j → (fun j => P j ∧ j ≠ H) j := hPx
  have e0d : w2.drew.cell? ⟨H, 0, none⟩ = some (.int .u64 (u : Int)) := e0
  have e1d : w2.drew.cell? ⟨H, 1, none⟩ = some (.int .u64 (m : Int)) := e1
  go_region_with (first
    | (go_at_call 33; refine (all_any _ c cl n A hxd hPd).mono ?_; rintro e w3 ⟨r, Y, rfl, h3, h4, o3⟩; have f0 := o3.cell (x := ⟨H, 0, none⟩) hHc e0d; have f1 := o3.cell (x := ⟨H, 1, none⟩) hHc e1d)
    | (go_at_call 38; refine (set_any (less45 r) n A Y id u m id _ h3.ob hid hokv hn 0 (by decide) trivial (fun _ q => q.elim) (fun _ q => q.elim) n' HN'.out).mono ?_; rintro e w4 ⟨rfl, Y', a, g1, g2, _, _, g5⟩))
  all_goals
    (go_wp2_with fail
     go_ret
     obtain ⟨h5, h6⟩ := h3.put h4 (fun j q => hPd j (Nat.le_trans o3.size q)) g1 g2 g5
     exact ⟨rfl, ⟨hx.1.1, Or.inr ⟨r, Y', h5, fun j q => (h6 j q).1⟩⟩, (((Only.of_below (S := P) b2).drewN 1).tr (o3.mono (fun j q => by rw [q]; exact hx.1.1))).tr (g5.mono (fun j q => q.elim (fun q => (h4 j q).1) (fun q => q.elim)))⟩)

set_option maxRecDepth 100000 in
set_option maxHeartbeats 800000 in
theorem w_least {P : Nat → Prop} (w : World) (c cl n : Nat) (A : Int → Option V) (h : Cq P w c cl n A) (hn : 0 < n) (hn2 : n < 1073741824) (hP : ∀ j, w.heap.size ≤ j → P j) :
    Calls Try.prog 27 #[.pointer (some ⟨c, 0, none⟩)] w fun e w' => ∃ (id : Int) (v : V), e = .returned (.tuple #[.int .i64 id, .bool true]) ∧ A id = some v ∧ (∀ k' v', A k' = some v' → lt v' v = false) ∧ Cq P w' c cl n A ∧ Only w w' P := by
  have hall := all_any w c cl n A h hP
  have hPc := h.1
  clear h
  go_enter Try.func27, Try.ntmps27
  go_wp2_with fail
  refine hall.mono ?_
  rintro e w1 ⟨r, Y, rfl, h1, h2, o1⟩
  clear hall
  go_wp2_with fail
  refine (min_some r F45 n A Y w1 h1.ob hn hn2).mono ?_
  rintro e w2 ⟨k, p, q, d, rfl, hA, hmin, b2⟩
  have h3 := h1.kept (Only.of_below (S := fun _ => False) b2) (fun q => q) (fun _ _ q => q)
  have o2 : Only w w2 P := (o1.mono (fun j q => by rw [q]; exact hPc)).tr (Only.of_below b2)
  have HA := Lib.hid hA
  have HMIN := Lib.hid hmin
  clear hA hmin
  go_wp2_with fail
  go_ret2
  have o3 := o2.alloc (.cells #[.int .u64 (p : Int), .int .u64 (q : Int), .int .i64 d] 76)
  exact ⟨k, (p, q, d), rfl, HA.out, HMIN.out, ⟨hPc, Or.inr ⟨r, Y, h3.kept (Only.alloc (Only.refl _ (fun _ => False)) _) (fun q => q) (fun _ _ q => q), h2⟩⟩, o3⟩

set_option maxRecDepth 100000 in
set_option maxHeartbeats 800000 in
theorem w_least0 {P : Nat → Prop} (w : World) (c cl : Nat) (A : Int → Option V) (h : Cq P w c cl 0 A) (hP : ∀ j, w.heap.size ≤ j → P j) :
    Calls Try.prog 27 #[.pointer (some ⟨c, 0, none⟩)] w fun e w' => e = .returned (.tuple #[.int .i64 0, .bool false]) ∧ Cq P w' c cl 0 A ∧ Only w w' P := by
  have hall := all_any w c cl 0 A h hP
  have hPc := h.1
  clear h
  go_enter Try.func27, Try.ntmps27
  go_wp2_with fail
  refine hall.mono ?_
  rintro e w1 ⟨r, Y, rfl, h1, h2, o1⟩
  clear hall
  go_wp2_with fail
  refine (min_none r F45 A Y w1 h1.ob).mono ?_
  rintro e w2 ⟨rfl, b2⟩
  have h3 := h1.kept (Only.of_below (S := fun _ => False) b2) (fun q => q) (fun _ _ q => q)
  have o2 : Only w w2 P := (o1.mono (fun j q => by rw [q]; exact hPc)).tr (Only.of_below b2)
  go_wp2_with fail
  go_ret2
  have o3 := o2.alloc (.cells #[.int .u64 0, .int .u64 0, .int .i64 0] 76)
  exact ⟨rfl, ⟨hPc, Or.inr ⟨r, Y, h3.kept (Only.alloc (Only.refl _ (fun _ => False)) _) (fun q => q) (fun _ _ q => q), h2⟩⟩, o3⟩

set_option maxRecDepth 100000 in
set_option maxHeartbeats 800000 in
theorem w_evict0 {P : Nat → Prop} (w : World) (c cl : Nat) (A : Int → Option V) (h : Cq P w c cl 0 A) (hP : ∀ j, w.heap.size ≤ j → P j) :
    Calls Try.prog 25 #[.pointer (some ⟨c, 0, none⟩)] w fun e w' => e = .returned (.tuple #[.int .i64 0, .bool false]) ∧ Cq P w' c cl 0 A ∧ Only w w' P := by
  have hall := all_any w c cl 0 A h hP
  have hPc := h.1
  clear h
  go_enter Try.func25, Try.ntmps25
  go_wp2_with fail
  refine hall.mono ?_
  rintro e w1 ⟨r, Y, rfl, h1, h2, o1⟩
  clear hall
  go_wp2_with fail
  refine (min_none r F45 A Y w1 h1.ob).mono ?_
  rintro e w2 ⟨rfl, b2⟩
  have h3 := h1.kept (Only.of_below (S := fun _ => False) b2) (fun q => q) (fun _ _ q => q)
  have o2 : Only w w2 P := (o1.mono (fun j q => by rw [q]; exact hPc)).tr (Only.of_below b2)
  go_wp2_with fail
  go_ret2
  have o3 := o2.alloc (.cells #[.int .u64 0, .int .u64 0, .int .i64 0] 76)
  exact ⟨rfl, ⟨hPc, Or.inr ⟨r, Y, h3.kept (Only.alloc (Only.refl _ (fun _ => False)) _) (fun q => q) (fun _ _ q => q), h2⟩⟩, o3⟩

theorem floor_below {w w1 w2 : World} {x y : Array Value} {t : TypeId} (h : Below w.heap.size w w1) (e : (w1.alloc (.cells x t)).alloc (.cells y t) = w2) : Below w.heap.size w w2 := by
  rw [← e]
  have := h.size
  exact (h.alloc this _).alloc (by simp; omega) _
theorem Ca.clocked {w : World} {c r cl n : Nat} {A : Int → Option V} {Y : Nat → Prop} (h : Ca w c r cl n A Y) (cl' : Nat) : Ca (w.setCell ⟨c, 1, none⟩ (.int .u64 (cl' : Int))) c r cl' n A Y ∧ Only w (w.setCell ⟨c, 1, none⟩ (.int .u64 (cl' : Int))) (fun j => j = c) := by
  have ho : Only w (w.setCell ⟨c, 1, none⟩ (.int .u64 (cl' : Int))) (fun j => j = c) := Only.grown (grown_set w 0 c 1 _) (Or.inl rfl)
  have hb := set_rowL (cs := [.pointer (some ⟨r, 0, none⟩), .int .u64 (cl : Int)]) h.blk 1 (.int .u64 (cl' : Int))
  exact ⟨⟨hb, h.ob.kept ho (fun j q e => h.ne (by rw [← e]; exact q)), h.ne, h.ids⟩, ho⟩

theorem evict_end {P : Nat → Prop} {w w6 w8 : World} {c r cl n1 : Nat} {A : Int → Option V} {Y : Nat → Prop} (hPc : P c) (h : Ca w6 c r cl n1 A Y) (hY : ∀ j, Y j → P j) (o : Only w w6 P) (b : Below w6.heap.size w6 w8) (cl' : Nat) :
    Cq P (w8.setCell ⟨c, 1, none⟩ (.int .u64 (cl' : Int))) c cl' n1 A ∧ Only w (w8.setCell ⟨c, 1, none⟩ (.int .u64 (cl' : Int))) P := by
  obtain ⟨h1, h2⟩ := (h.kept (Only.of_below (S := fun _ => False) b) (fun q => q) (fun _ _ q => q)).clocked cl'
  exact ⟨⟨hPc, Or.inr ⟨r, Y, h1, hY⟩⟩, (o.tr (Only.of_below b)).tr (h2.mono (fun j q => by rw [q]; exact hPc))⟩

set_option maxRecDepth 100000 in
set_option maxHeartbeats 1600000 in
theorem w_evict {P : Nat → Prop} (w : World) (c cl n : Nat) (A : Int → Option V) (h : Cq P w c cl n A) (n1 : Nat) (hn1 : n = n1 + 1) (hn2 : n < 1073741824) (hP : ∀ j, w.heap.size ≤ j → P j) :
    Calls Try.prog 25 #[.pointer (some ⟨c, 0, none⟩)] w fun e w' => ∃ (id : Int) (v : V), e = .returned (.tuple #[.int .i64 id, .bool true]) ∧ A id = some v ∧ (∀ k' v', A k' = some v' → lt v' v = false) ∧ Cq P w' c (max cl (v.1 / v.2.1)) n1 (updZ A id none) ∧ Only w w' P := by
  have hall := all_any w c cl n A h hP
  have hPc := h.1
  have hclt := h.lt
  have HN1 := Lib.hid hn1
  have hnpos : 0 < n := by omega
  clear h hn1
  go_enter Try.func25, Try.ntmps25
  go_wp2_with fail
  refine hall.mono ?_
  rintro e w1 ⟨r, Y, rfl, h1, h2, o1⟩
  clear hall
  go_wp2_with fail
  refine (min_some r F45 n A Y w1 h1.ob hnpos hn2).mono ?_
  rintro e w2 ⟨k, p, q, d, rfl, hA, hmin, b2⟩
  have h3 := h1.kept (Only.of_below (S := fun _ => False) b2) (fun q => q) (fun _ _ q => q)
  have o2 : Only w w2 P := (o1.mono (fun j q => by rw [q]; exact hPc)).tr (Only.of_below b2)
  have hokv := h3.ob.okV hA
  have HA := Lib.hid hA
  have HMIN := Lib.hid hmin
  clear hA hmin
  go_upto_region 4 with (fail)
  have hO3 : Only w2 (w2.alloc (.cells #[.int .u64 (p : Int), .int .u64 (q : Int), .int .i64 d] 76)) (fun _ => False) := (Only.refl _ _).alloc _
  have HBX := Lib.hid (heap_alloc_new w2 (.cells #[.int .u64 (p : Int), .int .u64 (q : Int), .int .i64 d] 76))
  obtain ⟨H, hH⟩ : ∃ H, w2.heap.size = H := ⟨_, rfl⟩
  have hYH : ∀ j, Y j → P j ∧ j ≠ H := fun j q => ⟨h2 j q, by have := h3.ob.lt j q; omega⟩
  have hcH : c ≠ H := by have := lt_of_row h3.blk; omega
  have hHw : w.heap.size ≤ H := by rw [← hH]; exact o2.size
  rw [hH] at HBX
  rw [hH]
  clear hH
  generalize w2.alloc (.cells #[.int .u64 (p : Int), .int .u64 (q : Int), .int .i64 d] 76) = w3 at hO3 HBX ⊢
  have h4 := h3.kept hO3 (fun q => q) (fun _ _ q => q)
  have hHlt := lt_of_row HBX.out
  have hP3 : ∀ j, w3.heap.size ≤ j → (fun j => P j ∧ j ≠ H) j := fun j q => ⟨hP j (by have := o2.size; have := hO3.size; omega), by omega⟩
  have o3 : Only w w3 P := o2.trans hO3 (fun _ q => q.elim)
  have hall := all_any w3 c cl n A ⟨⟨hPc, hcH⟩, Or.inr ⟨r, Y, h4, hYH⟩⟩ hP3
  clear h3 h1 h2 o1 o2 h4 hYH b2
  go_wp2_with fail
  refine hall.mono ?_
  rintro e w4 ⟨r4, Y4, rfl, h5, h6, o5⟩
  clear hall
  have HBX4 := Lib.hid (o5.blk (fun q => hcH q.symm) HBX.out)
  go_wp2_with fail
  refine (drop_some (less45 r4) n A Y4 k (p, q, d) w4 h5.ob hokv.2 HA.out hn2 0 (by decide) trivial (fun _ q => q.elim) (fun _ q => q.elim) n1 HN1.out).mono ?_
  rintro e w6 ⟨rfl, Y', a, g1, g2, _, _, g5⟩
  have hP4 : ∀ j, w4.heap.size ≤ j → (fun j => P j ∧ j ≠ H) j := fun j q => hP3 j (Nat.le_trans o5.size q)
  obtain ⟨h7, h8⟩ := h5.dropped h6 hP4 g1 g2 g5
  have HBX6 := Lib.hid (g5.blk (fun q => q.elim (fun q => (h6 H q).2 rfl) id) HBX4.out)
  have o6 : Only w w6 P := (o3.tr (o5.mono (fun j q => by rw [q]; exact hPc))).tr (g5.mono (fun j q => q.elim (fun q => (h6 j q).1) (fun q => q.elim)))
  obtain ⟨⟨hp64, hq0, hq64, _⟩, _⟩ := hokv
  have c1 := cell_of_row _ _ 1 _ _ _ h7.blk
  have z0 := cell_of_row _ _ 0 _ _ _ HBX6.out
  have z1 := cell_of_row _ _ 1 _ _ _ HBX6.out
  obtain ⟨f, hf⟩ : ∃ f, f = p / q := ⟨_, rfl⟩
  have hfl := fun w => floor_any (p : Int) (q : Int) (u64n hp64) (u64n hq64) w
  have hfi : (p : Int) / (q : Int) = (f : Int) := by rw [hf]; exact (Int.natCast_ediv p q).symm
  rw [hfi] at hfl
  have HF := Lib.hid hf
  clear HBX4 HBX h5 h6 g5 o5 g1 g2 hf hfi
  have c1d : w6.drew.cell? ⟨c, 1, none⟩ = some (.int .u64 (cl : Int)) := c1
  have z0d : w6.drew.cell? ⟨H, 0, none⟩ = some (.int .u64 (p : Int)) := z0
  have z1d : w6.drew.cell? ⟨H, 1, none⟩ = some (.int .u64 (q : Int)) := z1
  have hd6 : Below w6.heap.size w6 w6.drew := below_drewN (Below.refl _ _) 1
  have hclt6 := lt_of_row h7.blk
  have hHlt6 := lt_of_row HBX6.out
  go_upto_region 5 with (fail)
  by_cases hgt : cl < f
  · have hgi : (cl : Int) < (f : Int) := by omega
    have hmx : max cl f = f := by omega
    go_region_with (first
      | (go_at_call 36; refine (hfl _).mono ?_; rintro e w8 ⟨rfl, x, y, hw8⟩; have b8 := floor_below hd6 hw8; have k1 := (Only.of_below (S := fun _ => False) b8).cell (x := ⟨c, 1, none⟩) (fun q => q) c1; have k2 := frozen_of_row w8 c 1 _ _ ((Only.of_below (S := fun _ => False) b8).blk (fun q => q) h7.blk); clear hw8))
    all_goals
      (go_wp2_with fail
       go_ret2
       obtain ⟨h9, o9⟩ := evict_end hPc h7 (fun j q => (h8 j q).1) o6 b8 f
       exact ⟨k, (p, q, d), rfl, HA.out, HMIN.out, by show Cq P _ c (max cl (p / q)) n1 _; rw [← HF.out, hmx]; exact h9, o9⟩)
  · have hgi : decide ((cl : Int) < (f : Int)) = false := by simp; omega
    have hmx : max cl f = cl := by omega
    go_region_with (first
      | (go_at_call 36; refine (hfl _).mono ?_; rintro e w8 ⟨rfl, x, y, hw8⟩; have b8 := floor_below hd6 hw8; have k1 := (Only.of_below (S := fun _ => False) b8).cell (x := ⟨c, 1, none⟩) (fun q => q) c1; have k2 := frozen_of_row w8 c 1 _ _ ((Only.of_below (S := fun _ => False) b8).blk (fun q => q) h7.blk); clear hw8))
    all_goals
      (go_wp2_with fail
       go_ret2
       obtain ⟨h9, o9⟩ := evict_end hPc h7 (fun j q => (h8 j q).1) o6 b8 cl
       exact ⟨k, (p, q, d), rfl, HA.out, HMIN.out, by show Cq P _ c (max cl (p / q)) n1 _; rw [← HF.out, hmx]; exact h9, o9⟩)

abbrev icR (x : Nat × Nat) : List Value := [.int .u64 (x.1 : Int), .int .u64 (x.2 : Int)]
theorem encR : Enc icR 2 := ⟨fun _ => rfl, by decide, fun x u hu => by simp at hu; rcases hu with rfl | rfl <;> rfl⟩
theorem sizeR : (Try.prog.info? 53).map (·.size) = some 2 := by kernel_rfl
/-- A new block for a ratio. -/
theorem row_new (w : World) (p q : Nat) : Row icR 2 53 (w.alloc (.cells #[.int .u64 (p : Int), .int .u64 (q : Int)] 53)) w.heap.size 1 1 (fun _ => (p, q)) := by
  refine ⟨[.int .u64 (p : Int), .int .u64 (q : Int)], heap_alloc_new w _, rfl, Nat.le_refl _, by decide, ?_⟩
  intro j hj c u hu
  obtain rfl : j = 0 := by omega
  rw [Nat.zero_mul, Nat.zero_add]; exact hu

set_option maxRecDepth 100000 in
set_option maxHeartbeats 1600000 in
theorem w_worth {P : Nat → Prop} (w : World) (c cl n : Nat) (A : Int → Option V) (h : Cq P w c cl n A) (id : Int) (hid : (KL id).wf = true) (p q : Nat) (d : Int) (b : Bool) (hv : (A id = some (p, q, d) ∧ b = true) ∨ (A id = none ∧ p = 0 ∧ q = 0 ∧ d = 0 ∧ b = false)) (hn : n < 1073741824) (hP : ∀ j, w.heap.size ≤ j → P j) :
    Calls Try.prog 30 #[.pointer (some ⟨c, 0, none⟩), .int .i64 id] w fun e w' => e = .returned (.tuple #[.agg #[.int .u64 (p : Int), .int .u64 (q : Int)], .bool b]) ∧ Cq P w' c cl n A ∧ Only w w' P := by
  have hPc := h.1
  have hclt := h.lt
  have HV := Lib.hid hv
  clear hv
  go_enter Try.func30, Try.ntmps30
  go_upto_region 1 with (fail)
  have b1 : Below w.heap.size w (w.alloc (.cells #[.int .u64 0, .int .u64 0] 53)) := (Below.refl _ _).alloc (Nat.le_refl _) _
  have hrow := row_new w 0 0
  have hx : Cq (fun j => P j ∧ j ≠ w.heap.size) (w.alloc (.cells #[.int .u64 0, .int .u64 0] 53)) c cl n A := (h.tight.below b1).mono (fun j q => ⟨q.1, by omega⟩)
  obtain ⟨H, hH⟩ : ∃ H, w.heap.size = H := ⟨_, rfl⟩
  rw [hH] at hx hrow
  rw [hH]
  have hHw : w.heap.size ≤ H := by omega
  have HRW : Hid (Row icR 2 53 (w.alloc (.cells #[.int .u64 0, .int .u64 0] 53)) H 1 1 (fun _ => (0, 0))) := hrow
  have hHc : H ≠ c := by omega
  have b1' : Below w.heap.size w (w.alloc (.cells #[.int .u64 0, .int .u64 0] 53)) := b1
  clear hH b1 h hrow
  have hHlt := HRW.out.lt
  generalize w.alloc (.cells #[.int .u64 0, .int .u64 0] 53) = w1 at hx HRW b1' hHlt ⊢
  have hall := all_any w1 c cl n A hx (fun j q => ⟨hP j (Nat.le_trans b1'.size q), by omega⟩)
  go_wp2_with fail
  refine hall.mono ?_
  rintro e w2 ⟨r, Y, rfl, h2, h3, o2⟩
  clear hall
  have hget : Calls Try.prog 40 #[.pointer (some ⟨r, 0, none⟩), .int .i64 id] w2 fun e w' => e = .returned (.tuple #[.agg #[.int .u64 (p : Int), .int .u64 (q : Int), .int .i64 d], .bool b]) ∧ Below w2.heap.size w2 w' := by
    rcases HV.out with ⟨q1, rfl⟩ | ⟨q1, rfl, rfl, rfl, rfl⟩
    · exact get_some r F45 n A Y w2 h2.ob id hid p q d q1 hn
    · exact get_none r F45 n A Y w2 h2.ob id hid q1
  go_wp2_with fail
  refine hget.mono ?_
  rintro e w3 ⟨rfl, b3⟩
  clear hget
  have hrow3 := (HRW.out.kept o2 hHc).kept (Only.of_below (S := fun _ => False) b3) (fun q => q)
  have h4 := h2.kept (Only.of_below (S := fun _ => False) b3) (fun q => q) (fun _ _ q => q)
  have o3 : Only w w3 P := ((Only.of_below (S := P) b1').tr (o2.mono (fun j q => by rw [q]; exact hPc))).tr (Only.of_below b3)
  go_upto_region 2 with (fail)
  have hO4 : Only w3 (w3.alloc (.cells #[.int .u64 (p : Int), .int .u64 (q : Int), .int .i64 d] 76)) (fun _ => False) := (Only.refl _ _).alloc _
  have HBX := Lib.hid (heap_alloc_new w3 (.cells #[.int .u64 (p : Int), .int .u64 (q : Int), .int .i64 d] 76))
  obtain ⟨G, hG⟩ : ∃ G, w3.heap.size = G := ⟨_, rfl⟩
  rw [hG] at HBX
  rw [hG]
  clear hG
  generalize w3.alloc (.cells #[.int .u64 (p : Int), .int .u64 (q : Int), .int .i64 d] 76) = w4 at hO4 HBX ⊢
  have hrow4 := hrow3.kept hO4 (fun q => q)
  have h5 := h4.kept hO4 (fun q => q) (fun _ _ q => q)
  have o4 : Only w w4 P := o3.trans hO4 (fun _ q => q.elim)
  have z0 := cell_of_row _ _ 0 _ _ _ HBX.out
  have z1 := cell_of_row _ _ 1 _ _ _ HBX.out
  go_wp2_with (refine wpList_item_set encR rfl 53 (.tmp 4) (.tmp 16) rfl sizeR H 1 1 0 (fun _ => (0, 0)) rfl (p, q) rfl hrow4 (by decide) ?_; intro w5 hrow5 hg5)
  have k0 : w5.cell? ⟨H, 0, none⟩ = some (.int .u64 (p : Int)) := hrow5.cell (c := 0) (j := 0) (by decide) (by rw [upd_same]; rfl) rfl
  have k1 : w5.cell? ⟨H, 1, none⟩ = some (.int .u64 (q : Int)) := hrow5.cell (c := 1) (j := 0) (by decide) (by rw [upd_same]; rfl) rfl
  have hO5 : Only w4 w5 (fun j => j = H) := Only.grown hg5 (Or.inl rfl)
  refine bodyPost_ret (v := .tuple #[.agg #[.int .u64 (p : Int), .int .u64 (q : Int)], .bool b]) (by simp [results, Try.results30, go_sem, k0, k1]) rfl ⟨rfl, ⟨hPc, Or.inr ⟨r, Y, h5.kept hO5 (fun q => hHc q.symm) (fun j q q' => (h3 j q).2 q'), fun j q => (h3 j q).1⟩⟩, o4.trans hO5 (fun j q => by rw [q]; exact Or.inr hHw)⟩
end Go.Proofs.Ytpagleilaaljoaa.W.HR
