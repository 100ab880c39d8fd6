/- Package audit's law: a command. -/
import Derived.Test.YtgpookphacdgoaaAuX
import Derived.BigQuiet
namespace Go.Proofs.Ytgpookphacdgoaa.W.U
open Go.RowKit Go.Maps Go.ChangeMaps Go.MapKept Go.Proofs.Ytgpookphacdgoaa.W

/-- What a call of the law's says. -/
def Lr (w : World) (q gs gm : Nat) (G : Option Nat) (N : Nat) (r : Option Wd) (e : Ending) (w' : World) : Prop :=
  Only w w' (Ow q gs gm G) ∧ ((r = none ∧ e = .returned (.bool false)) ∨ ∃ W' G', r = some W' ∧ e = .returned (.bool true) ∧ Wl w' q gs gm G' W' N ∧ ∀ g, G' = some g → G = some g ∨ w.heap.size ≤ g)
theorem Lr.up {w w' : World} {q gs gm : Nat} {G : Option Nat} {N M : Nat} {r : Option Wd} {e : Ending} (h : N ≤ M) (k : Lr w q gs gm G N r e w') : Lr w q gs gm G M r e w' := by
  obtain ⟨h1, h2⟩ := k
  refine ⟨h1, h2.imp id ?_⟩
  rintro ⟨W', G', a1, a2, a3, a4⟩
  exact ⟨W', G', a1, a2, a3.up h, a4⟩


set_option maxRecDepth 100000 in
set_option maxHeartbeats 3200000 in
theorem l_kill0 {w : World} {q gs gm : Nat} {G : Option Nat} {W : Wd} {N : Nat} (h : Wl w q gs gm G W N) (hN : N ≤ 1048576) {i f x : Int} (hf : fnd W.L i = none) : Calls Try.prog 19 #[ptr q, .agg #[.bool false, .int .i64 i, .int .i64 f, .int .i64 x]] w (Lr w q gs gm G N none) := by
  go_enter Try.func19, Try.ntmps19
  go_wp2_with fail
  have HB1 := heap_alloc_new w (.cells #[.bool false, .int .i64 i, .int .i64 f, .int .i64 x] 38)
  have o1 := (Only.refl w (Ow q gs gm G)).alloc (.cells #[.bool false, .int .i64 i, .int .i64 f, .int .i64 x] 38)
  have h1 := h.below (((Below.refl _ _).alloc (Nat.le_refl _) (.cells #[.bool false, .int .i64 i, .int .i64 f, .int .i64 x] 38)))
  have hnq : ¬ Ow q gs gm G w.heap.size := fun t => by have := h.lt t; omega
  obtain ⟨H, hH⟩ : ∃ H, w.heap.size = H := ⟨_, rfl⟩
  rw [hH] at HB1 hnq
  try rw [hH]
  have HH := Lib.hid hH
  clear hH
  generalize w.alloc (.cells #[.bool false, .int .i64 i, .int .i64 f, .int .i64 x] 38) = w1 at HB1 o1 h1 ⊢
  refine (l_find h1 hN i).mono ?_
  rintro e w2 ⟨r, rfl, hfd, b2⟩
  have h2 := h1.below b2
  have o2 : Only w w2 (Ow q gs gm G) := o1.tr (Only.of_below b2)
  have hr2 : w2.heap[H]? = some (.cells #[.bool false, .int .i64 i, .int .i64 f, .int .i64 x] 38 (0, 0)) := by rw [b2.block H (lt_of_row HB1)]; exact HB1
  have HB2 := Lib.hid hr2
  have HNQ := Lib.hid hnq
  clear HB1 o1 h1 b2 hr2 hnq h
  rcases hfd with ⟨rfl, _⟩ | ⟨k, b, rfl, ha⟩
  · have z0 := (cellB HB2.out 0 _ rfl : w2.cell? ⟨H, 0, none⟩ = some (.bool false))
    go_wp2_with fail
    go_quiet (fail)
    have o3 := o2.drewN nq
    generalize w2.drewN nq = w3 at o3 ⊢
    clear h2 o2 HB2 z0
    go_wp2
    go_ret
    exact ⟨o3, Or.inl ⟨rfl, rfl⟩⟩
  · rw [ha.all.1] at hf; cases hf

set_option maxRecDepth 100000 in
set_option maxHeartbeats 3200000 in
theorem l_kill1 {w : World} {q gs gm : Nat} {G : Option Nat} {W : Wd} {N : Nat} (h : Wl w q gs gm G W N) (hN : N ≤ 1048576) {i f x : Int} {b : Bv} (hf : fnd W.L i = some b) (hbu : b.busy = true) : Calls Try.prog 19 #[ptr q, .agg #[.bool false, .int .i64 i, .int .i64 f, .int .i64 x]] w (Lr w q gs gm G N none) := by
  obtain ⟨bi, bf, bh, bb, bu⟩ := b
  dsimp only at hbu
  subst hbu
  go_enter Try.func19, Try.ntmps19
  go_wp2_with fail
  have HB1 := heap_alloc_new w (.cells #[.bool false, .int .i64 i, .int .i64 f, .int .i64 x] 38)
  have o1 := (Only.refl w (Ow q gs gm G)).alloc (.cells #[.bool false, .int .i64 i, .int .i64 f, .int .i64 x] 38)
  have h1 := h.below (((Below.refl _ _).alloc (Nat.le_refl _) (.cells #[.bool false, .int .i64 i, .int .i64 f, .int .i64 x] 38)))
  have hnq : ¬ Ow q gs gm G w.heap.size := fun t => by have := h.lt t; omega
  obtain ⟨H, hH⟩ : ∃ H, w.heap.size = H := ⟨_, rfl⟩
  rw [hH] at HB1 hnq
  try rw [hH]
  have HH := Lib.hid hH
  clear hH
  generalize w.alloc (.cells #[.bool false, .int .i64 i, .int .i64 f, .int .i64 x] 38) = w1 at HB1 o1 h1 ⊢
  refine (l_find h1 hN i).mono ?_
  rintro e w2 ⟨r, rfl, hfd, b2⟩
  have h2 := h1.below b2
  have o2 : Only w w2 (Ow q gs gm G) := o1.tr (Only.of_below b2)
  have hr2 : w2.heap[H]? = some (.cells #[.bool false, .int .i64 i, .int .i64 f, .int .i64 x] 38 (0, 0)) := by rw [b2.block H (lt_of_row HB1)]; exact HB1
  have HB2 := Lib.hid hr2
  have HNQ := Lib.hid hnq
  clear HB1 o1 h1 b2 hr2 hnq h
  rcases hfd with ⟨rfl, hno⟩ | ⟨k, b', rfl, ha⟩
  · rw [hf] at hno; cases hno
  · have hbb := ha.all.1
    rw [hf] at hbb
    cases hbb
    obtain ⟨ad, cap, g, hAd, hG, y0, hkl, y1, y2, y3, y4, y5⟩ := h2.item ha.1
    have hki : (k : Int) < (W.L.length : Int) := by omega
    obtain ⟨n, hn⟩ : ∃ n, W.L.length = n := ⟨_, rfl⟩
    rw [hn] at y0 hkl hki
    have hk0 : decide ((k : Int) < 0) = false := dec_f (by omega)
    have z0 := (cellB HB2.out 0 _ rfl : w2.cell? ⟨H, 0, none⟩ = some (.bool false))
    have z2 := (cellB HB2.out 2 _ rfl : w2.cell? ⟨H, 2, none⟩ = some (.int .i64 f))
    have z3 := (cellB HB2.out 3 _ rfl : w2.cell? ⟨H, 3, none⟩ = some (.int .i64 x))
    have HA := Lib.hid ha
    have HAD := Lib.hid hAd
    clear hn hAd hG ha
    go_wp2_with fail
    go_quiet (fail)
    have o3 := o2.drewN nq
    have h3 : Wl (w2.drewN nq) q gs gm G W N := h2.kept ((Only.refl w2 (fun _ => False)).drewN nq) (fun _ _ t => t)
    generalize w2.drewN nq = w3 at o3 h3 ⊢
    clear h2 o2 HB2 z0 z2 z3 y0 y1 y2 y3 y4 y5
    go_wp2
    go_ret
    exact ⟨o3, Or.inl ⟨rfl, rfl⟩⟩

set_option maxRecDepth 100000 in
set_option maxHeartbeats 3200000 in
theorem l_kill2 {w : World} {q gs gm : Nat} {G : Option Nat} {W : Wd} {N : Nat} (h : Wl w q gs gm G W N) (hN : N ≤ 1048576) {i f x : Int} {b : Bv} (hf : fnd W.L i = some b) (hbu : b.busy = false) (hbf : b.fn ≠ f) : Calls Try.prog 19 #[ptr q, .agg #[.bool false, .int .i64 i, .int .i64 f, .int .i64 x]] w (Lr w q gs gm G N none) := by
  obtain ⟨bi, bf, bh, bb, bu⟩ := b
  dsimp only at hbu hbf
  subst hbu
  have hd : (bf == f) = false := beq_false_of_ne hbf
  go_enter Try.func19, Try.ntmps19
  go_wp2_with fail
  have HB1 := heap_alloc_new w (.cells #[.bool false, .int .i64 i, .int .i64 f, .int .i64 x] 38)
  have o1 := (Only.refl w (Ow q gs gm G)).alloc (.cells #[.bool false, .int .i64 i, .int .i64 f, .int .i64 x] 38)
  have h1 := h.below (((Below.refl _ _).alloc (Nat.le_refl _) (.cells #[.bool false, .int .i64 i, .int .i64 f, .int .i64 x] 38)))
  have hnq : ¬ Ow q gs gm G w.heap.size := fun t => by have := h.lt t; omega
  obtain ⟨H, hH⟩ : ∃ H, w.heap.size = H := ⟨_, rfl⟩
  rw [hH] at HB1 hnq
  try rw [hH]
  have HH := Lib.hid hH
  clear hH
  generalize w.alloc (.cells #[.bool false, .int .i64 i, .int .i64 f, .int .i64 x] 38) = w1 at HB1 o1 h1 ⊢
  refine (l_find h1 hN i).mono ?_
  rintro e w2 ⟨r, rfl, hfd, b2⟩
  have h2 := h1.below b2
  have o2 : Only w w2 (Ow q gs gm G) := o1.tr (Only.of_below b2)
  have hr2 : w2.heap[H]? = some (.cells #[.bool false, .int .i64 i, .int .i64 f, .int .i64 x] 38 (0, 0)) := by rw [b2.block H (lt_of_row HB1)]; exact HB1
  have HB2 := Lib.hid hr2
  have HNQ := Lib.hid hnq
  clear HB1 o1 h1 b2 hr2 hnq h
  rcases hfd with ⟨rfl, hno⟩ | ⟨k, b', rfl, ha⟩
  · rw [hf] at hno; cases hno
  · have hbb := ha.all.1
    rw [hf] at hbb
    cases hbb
    obtain ⟨ad, cap, g, hAd, hG, y0, hkl, y1, y2, y3, y4, y5⟩ := h2.item ha.1
    have hki : (k : Int) < (W.L.length : Int) := by omega
    obtain ⟨n, hn⟩ : ∃ n, W.L.length = n := ⟨_, rfl⟩
    rw [hn] at y0 hkl hki
    have hk0 : decide ((k : Int) < 0) = false := dec_f (by omega)
    have z0 := (cellB HB2.out 0 _ rfl : w2.cell? ⟨H, 0, none⟩ = some (.bool false))
    have z2 := (cellB HB2.out 2 _ rfl : w2.cell? ⟨H, 2, none⟩ = some (.int .i64 f))
    have z3 := (cellB HB2.out 3 _ rfl : w2.cell? ⟨H, 3, none⟩ = some (.int .i64 x))
    have HA := Lib.hid ha
    have HAD := Lib.hid hAd
    clear hn hAd hG ha
    go_wp2_with fail
    go_quiet (fail)
    have o3 := o2.drewN nq
    have h3 : Wl (w2.drewN nq) q gs gm G W N := h2.kept ((Only.refl w2 (fun _ => False)).drewN nq) (fun _ _ t => t)
    generalize w2.drewN nq = w3 at o3 h3 ⊢
    clear h2 o2 HB2 z0 z2 z3 y0 y1 y2 y3 y4 y5
    go_wp2
    go_ret
    exact ⟨o3, Or.inl ⟨rfl, rfl⟩⟩

set_option maxRecDepth 100000 in
set_option maxHeartbeats 3200000 in
theorem l_kill3 {w : World} {q gs gm : Nat} {G : Option Nat} {W : Wd} {N : Nat} (h : Wl w q gs gm G W N) (hN : N ≤ 1048576) {i f x : Int} {b : Bv} (hf : fnd W.L i = some b) (hbu : b.busy = false) (hbf : b.fn = f) (hbh : b.ho ≠ x) : Calls Try.prog 19 #[ptr q, .agg #[.bool false, .int .i64 i, .int .i64 f, .int .i64 x]] w (Lr w q gs gm G N none) := by
  obtain ⟨bi, bf, bh, bb, bu⟩ := b
  dsimp only at hbu hbf hbh
  subst hbu
  subst hbf
  have hd : (bh == x) = false := beq_false_of_ne hbh
  go_enter Try.func19, Try.ntmps19
  go_wp2_with fail
  have HB1 := heap_alloc_new w (.cells #[.bool false, .int .i64 i, .int .i64 bf, .int .i64 x] 38)
  have o1 := (Only.refl w (Ow q gs gm G)).alloc (.cells #[.bool false, .int .i64 i, .int .i64 bf, .int .i64 x] 38)
  have h1 := h.below (((Below.refl _ _).alloc (Nat.le_refl _) (.cells #[.bool false, .int .i64 i, .int .i64 bf, .int .i64 x] 38)))
  have hnq : ¬ Ow q gs gm G w.heap.size := fun t => by have := h.lt t; omega
  obtain ⟨H, hH⟩ : ∃ H, w.heap.size = H := ⟨_, rfl⟩
  rw [hH] at HB1 hnq
  try rw [hH]
  have HH := Lib.hid hH
  clear hH
  generalize w.alloc (.cells #[.bool false, .int .i64 i, .int .i64 bf, .int .i64 x] 38) = w1 at HB1 o1 h1 ⊢
  refine (l_find h1 hN i).mono ?_
  rintro e w2 ⟨r, rfl, hfd, b2⟩
  have h2 := h1.below b2
  have o2 : Only w w2 (Ow q gs gm G) := o1.tr (Only.of_below b2)
  have hr2 : w2.heap[H]? = some (.cells #[.bool false, .int .i64 i, .int .i64 bf, .int .i64 x] 38 (0, 0)) := by rw [b2.block H (lt_of_row HB1)]; exact HB1
  have HB2 := Lib.hid hr2
  have HNQ := Lib.hid hnq
  clear HB1 o1 h1 b2 hr2 hnq h
  rcases hfd with ⟨rfl, hno⟩ | ⟨k, b', rfl, ha⟩
  · rw [hf] at hno; cases hno
  · have hbb := ha.all.1
    rw [hf] at hbb
    cases hbb
    obtain ⟨ad, cap, g, hAd, hG, y0, hkl, y1, y2, y3, y4, y5⟩ := h2.item ha.1
    have hki : (k : Int) < (W.L.length : Int) := by omega
    obtain ⟨n, hn⟩ : ∃ n, W.L.length = n := ⟨_, rfl⟩
    rw [hn] at y0 hkl hki
    have hk0 : decide ((k : Int) < 0) = false := dec_f (by omega)
    have z0 := (cellB HB2.out 0 _ rfl : w2.cell? ⟨H, 0, none⟩ = some (.bool false))
    have z2 := (cellB HB2.out 2 _ rfl : w2.cell? ⟨H, 2, none⟩ = some (.int .i64 bf))
    have z3 := (cellB HB2.out 3 _ rfl : w2.cell? ⟨H, 3, none⟩ = some (.int .i64 x))
    have HA := Lib.hid ha
    have HAD := Lib.hid hAd
    clear hn hAd hG ha
    go_wp2_with fail
    go_quiet (fail)
    have o3 := o2.drewN nq
    have h3 : Wl (w2.drewN nq) q gs gm G W N := h2.kept ((Only.refl w2 (fun _ => False)).drewN nq) (fun _ _ t => t)
    generalize w2.drewN nq = w3 at o3 h3 ⊢
    clear h2 o2 HB2 z0 z2 z3 y0 y1 y2 y3 y4 y5
    go_wp2
    go_ret
    exact ⟨o3, Or.inl ⟨rfl, rfl⟩⟩

set_option maxRecDepth 100000 in
set_option maxHeartbeats 3200000 in
theorem l_kill4 {w : World} {q gs gm : Nat} {G : Option Nat} {W : Wd} {N : Nat} (h : Wl w q gs gm G W N) (hN : N ≤ 1048576) {i f x : Int} {b : Bv} (hf : fnd W.L i = some b) (hbu : b.busy = false) (hbf : b.fn = f) (hbh : b.ho = x) : Calls Try.prog 19 #[ptr q, .agg #[.bool false, .int .i64 i, .int .i64 f, .int .i64 x]] w (Lr w q gs gm G N (some { W with L := drp W.L i })) := by
  obtain ⟨bi, bf, bh, bb, bu⟩ := b
  dsimp only at hbu hbf hbh
  subst hbu
  subst hbf
  subst hbh
  go_enter Try.func19, Try.ntmps19
  go_wp2_with fail
  have HB1 := heap_alloc_new w (.cells #[.bool false, .int .i64 i, .int .i64 bf, .int .i64 bh] 38)
  have o1 := (Only.refl w (Ow q gs gm G)).alloc (.cells #[.bool false, .int .i64 i, .int .i64 bf, .int .i64 bh] 38)
  have h1 := h.below (((Below.refl _ _).alloc (Nat.le_refl _) (.cells #[.bool false, .int .i64 i, .int .i64 bf, .int .i64 bh] 38)))
  have hnq : ¬ Ow q gs gm G w.heap.size := fun t => by have := h.lt t; omega
  obtain ⟨H, hH⟩ : ∃ H, w.heap.size = H := ⟨_, rfl⟩
  rw [hH] at HB1 hnq
  try rw [hH]
  have HH := Lib.hid hH
  clear hH
  generalize w.alloc (.cells #[.bool false, .int .i64 i, .int .i64 bf, .int .i64 bh] 38) = w1 at HB1 o1 h1 ⊢
  refine (l_find h1 hN i).mono ?_
  rintro e w2 ⟨r, rfl, hfd, b2⟩
  have h2 := h1.below b2
  have o2 : Only w w2 (Ow q gs gm G) := o1.tr (Only.of_below b2)
  have hr2 : w2.heap[H]? = some (.cells #[.bool false, .int .i64 i, .int .i64 bf, .int .i64 bh] 38 (0, 0)) := by rw [b2.block H (lt_of_row HB1)]; exact HB1
  have HB2 := Lib.hid hr2
  have HNQ := Lib.hid hnq
  clear HB1 o1 h1 b2 hr2 hnq h
  rcases hfd with ⟨rfl, hno⟩ | ⟨k, b', rfl, ha⟩
  · rw [hf] at hno; cases hno
  · have hbb := ha.all.1
    rw [hf] at hbb
    cases hbb
    obtain ⟨ad, cap, g, hAd, hG, y0, hkl, y1, y2, y3, y4, y5⟩ := h2.item ha.1
    have hki : (k : Int) < (W.L.length : Int) := by omega
    obtain ⟨n, hn⟩ : ∃ n, W.L.length = n := ⟨_, rfl⟩
    rw [hn] at y0 hkl hki
    have hk0 : decide ((k : Int) < 0) = false := dec_f (by omega)
    have z0 := (cellB HB2.out 0 _ rfl : w2.cell? ⟨H, 0, none⟩ = some (.bool false))
    have z2 := (cellB HB2.out 2 _ rfl : w2.cell? ⟨H, 2, none⟩ = some (.int .i64 bf))
    have z3 := (cellB HB2.out 3 _ rfl : w2.cell? ⟨H, 3, none⟩ = some (.int .i64 bh))
    have HA := Lib.hid ha
    have HAD := Lib.hid hAd
    clear hn hAd hG ha
    go_wp2_with fail
    go_quiet (fail)
    have o3 := o2.drewN nq
    have h3 : Wl (w2.drewN nq) q gs gm G W N := h2.kept ((Only.refl w2 (fun _ => False)).drewN nq) (fun _ _ t => t)
    generalize w2.drewN nq = w3 at o3 h3 ⊢
    clear h2 o2 HB2 z0 z2 z3 y0 y1 y2 y3 y4 y5
    go_wp2_with fail
    refine (l_drop h3 hN HA.out).mono ?_
    rintro e w4 ⟨rfl, G', h4, o4, hg4⟩
    have hsz := o3.size
    go_wp2
    go_ret
    exact ⟨o3.tr o4, Or.inr ⟨_, G', rfl, rfl, h4, fun g hg => Or.inr (Nat.le_trans hsz (hg4 g hg))⟩⟩

theorem usd_take {me : Int → Option Int} {L : List Bv} {k : Nat} {b : Bv} (h : L[k]? = some b) (x : Int) : usd me (L.take (k + 1)) x = usd me (L.take k) x + (if b.ho = x then (me b.fn).getD 0 else 0) := by
  have hk := (List.getElem?_eq_some_iff.1 h).1
  have e : L.take (k + 1) = L.take k ++ [b] := by
    rw [List.take_add_one, h]; rfl
  rw [e, usd_app]; simp [usd]
theorem usd_tbd {W : Wd} {N : Nat} (g : Gd W N) (hN : N ≤ 1048576) (k : Nat) (x : Int) : 0 ≤ usd W.me (W.L.take k) x ∧ usd W.me (W.L.take k) x ≤ 2251799813685248 := by
  obtain ⟨h1, h2⟩ := usd_bd g.mem x (W.L.take k)
  have h3 : (W.L.take k).length ≤ N := Nat.le_trans (by rw [List.length_take]; omega) g.len
  refine ⟨h1, Int.le_trans h2 ?_⟩
  have h4 : ((W.L.take k).length : Int) ≤ 1048576 := by omega
  have := Int.mul_le_mul_of_nonneg_right h4 (show (0 : Int) ≤ 2147483647 by decide)
  omega
theorem Wl.lme {w : World} {q gs gm : Nat} {G : Option Nat} {W : Wd} {N : Nat} (h : Wl w q gs gm G W N) {f : Int} (wf : (KL f).wf = true) : (∀ y, (Instr.lookup 44 (.map (some gm)) (.int .i64 f) true).run Try.prog (w.drewN y) = .ok (.tuple #[.int .i64 ((W.me f).getD 0), .bool (W.me f).isSome]) (w.drewN y)) ∧ ∀ y, (Instr.lookup 44 (.map (some gm)) (.int .i64 f) false).run Try.prog (w.drewN y) = .ok (.int .i64 ((W.me f).getD 0)) (w.drewN y) := by
  obtain ⟨c, h1, _⟩ := h.me
  refine ⟨fun y => ?_, fun y => ?_⟩
  · have := mp_run_ok (h1.kept ((Only.refl w (fun _ => False)).drewN y) (fun t => t)) Try.underlying3 Try.underlying44 (zeroIn _) wf
    rw [this]; cases W.me f <;> rfl
  · have := mp_run_at (h1.kept ((Only.refl w (fun _ => False)).drewN y) (fun t => t)) Try.underlying3 Try.underlying44 (zeroIn _) wf
    rw [this]; cases W.me f <;> rfl
theorem Wl.lsz {w : World} {q gs gm : Nat} {G : Option Nat} {W : Wd} {N : Nat} (h : Wl w q gs gm G W N) {x : Int} (wf : (KL x).wf = true) : ∀ y, (Instr.lookup 44 (.map (some gs)) (.int .i64 x) false).run Try.prog (w.drewN y) = .ok (.int .i64 (W.sz x)) (w.drewN y) := by
  obtain ⟨Ms, c, h1, _, h3⟩ := h.sz
  intro y
  have := mp_run_at (h1.kept ((Only.refl w (fun _ => False)).drewN y) (fun t => t)) Try.underlying3 Try.underlying44 (zeroIn _) wf
  rw [this, h3]
theorem Wl.q2 {w : World} {q gs gm : Nat} {G : Option Nat} {W : Wd} {N : Nat} (h : Wl w q gs gm G W N) : w.cell? ⟨q, 1, none⟩ = some (.map (some gs)) ∧ w.cell? ⟨q, 2, none⟩ = some (.map (some gm)) ∧ w.cell? ⟨q, 3, none⟩ = some (.int .i64 W.nx) := by
  obtain ⟨v, h1, _⟩ := h.row
  exact ⟨cellB h1 1 _ rfl, cellB h1 2 _ rfl, cellB h1 3 _ rfl⟩
theorem Wl.drewN {w : World} {q gs gm : Nat} {G : Option Nat} {W : Wd} {N : Nat} (h : Wl w q gs gm G W N) (n : Nat) : Wl (w.drewN n) q gs gm G W N := h.kept ((Only.refl w (fun _ => False)).drewN n) (fun _ _ t => t)

theorem boot_done {w5 w6 w7 w8 : World} {q gs gm g6 cap6 : Nat} {G : Option Nat} {W : Wd} {N : Nat} {f x : Int} (h : Wl w5 q gs gm G W N) (on6 : Only w5 w6 (fun j => G = some j)) (hg6 : G = some g6 ∨ w5.heap.size ≤ g6) (row6 : Row brow 5 57 w6 g6 (W.L.length + 1) cap6 (boT (W.L ++ [⟨W.nx, f, x, true, false⟩])))
    (g7 : w6.grownBy w7 (some q)) (g8 : w7.grownBy w8 (some q)) (hr8 : w8.heap[q]? = some (.cells #[.slice (some ⟨g6, 0, none⟩) (W.L.length + 1) cap6, .map (some gs), .map (some gm), .int .i64 (W.nx + 1)] 47 (0, 0))) (hgd : Gd (bootW W (true, W.nx, f, x)) (N + 1)) :
    Wl w8 q gs gm (some g6) (bootW W (true, W.nx, f, x)) (N + 1) ∧ Only w5 w8 (Ow q gs gm G) := by
  have oq : Only w6 w8 (fun j => j = q) := (Only.grown (S := fun j => j = q) g7 (Or.inl rfl)).tr (Only.grown (S := fun j => j = q) g8 (Or.inl rfl))
  have hqw := h.lt (j := q) (Or.inl rfl)
  have hsw := h.lt (j := gs) (Or.inr (Or.inl rfl))
  have hmw := h.lt (j := gm) (Or.inr (Or.inr (Or.inl rfl)))
  have hne : g6 ≠ q ∧ g6 ≠ gs ∧ g6 ≠ gm := by
    rcases hg6 with t | t
    · exact h.d4 _ t
    · exact ⟨by omega, by omega, by omega⟩
  obtain ⟨Ms, c, s1, s2, s3⟩ := h.sz
  obtain ⟨c2, e1, e2⟩ := h.me
  refine ⟨⟨⟨_, hr8, Or.inr ⟨g6, cap6, rfl, by simp [bootW], ?_⟩⟩, ⟨Ms, c, (s1.kept on6 (fun t => (h.d4 _ t).2.1 rfl)).kept oq (fun t => h.d1 t.symm), by omega, s3⟩, ⟨c2, (e1.kept on6 (fun t => (h.d4 _ t).2.2 rfl)).kept oq (fun t => h.d2 t.symm), by omega⟩, h.d1, h.d2, h.d3, fun g hg => by cases hg; exact hne, hgd⟩, (on6.mono (fun j t => Or.inr (Or.inr (Or.inr t)))).tr (oq.mono (fun j t => Or.inl t))⟩
  have hl : (bootW W (true, W.nx, f, x)).L.length = W.L.length + 1 := by simp [bootW]
  rw [hl]
  exact row6.kept oq hne.1

theorem run_one {w : World} {v : Value} {G : Option Nat} {L : List Bv} (h : Its brow 5 57 w v G L.length (boT L)) (i f x : Int) (hn : L.length ≤ 1048576) :
    ∃ g cap w', (Builtin.append_ #[45, 45] 45 #[v, .slice (some ⟨w.heap.size, 0, none⟩) 1 1]).run Try.prog (w.alloc (.cells #[.int .i64 i, .int .i64 f, .int .i64 x, .bool true, .bool false] 57)).drew = .ok (.slice (some ⟨g, 0, none⟩) (L.length + 1) cap) w' ∧ Row brow 5 57 w' g (L.length + 1) cap (boT (L ++ [⟨i, f, x, true, false⟩])) ∧ Only w w' (fun j => G = some j) ∧ (G = some g ∨ w.heap.size ≤ g) := by
  obtain ⟨iB, hi1, hi2, hi3, hi4⟩ := info3b infoBo
  have hlim : L.length + 1 ≤ maxLen := by
    have : (1073741824 : Nat) < maxLen := by decide
    omega
  have oE : Only w (w.alloc (.cells #[.int .i64 i, .int .i64 f, .int .i64 x, .bool true, .bool false] 57)).drew (fun _ => False) := ((Only.refl w _).alloc _).drewN 1
  have hown : (w.alloc (.cells #[.int .i64 i, .int .i64 f, .int .i64 x, .bool true, .bool false] 57)).drew.ownsRow 0 57 5 v L.length (flat brow (boT L) L.length) ∧ v.ownBlock = G := by
    have hk := h.kept oE (fun _ _ t => t)
    rcases hk with ⟨rfl, rfl, h0⟩ | ⟨g, cap, rfl, rfl, h3⟩
    · rw [h0]; exact ⟨⟨by simp [flat], Or.inl ⟨rfl, rfl⟩⟩, rfl⟩
    · exact ⟨h3.owns encB, rfl⟩
  have hrn := range_new w [.int .i64 i, .int .i64 f, .int .i64 x, .bool true, .bool false] 57
  obtain ⟨v', w2, hrun, hown2, hgr, _, hblk⟩ := run_append_own_at (P := Try.prog) (w.alloc (.cells #[.int .i64 i, .int .i64 f, .int .i64 x, .bool true, .bool false] 57)).drew 0 45 45 57 iB _ 5 32 Try.underlying45 hi1 hi2 hi3 hi4 rfl (by decide) v L.length _ hown.1 ⟨w.heap.size, 0, none⟩ 1 1 (brow ⟨i, f, x, true, false⟩) rfl (fun j u hj => by rw [Addr.add_mid]; exact hrn j u hj) (encB.one _) hlim (by omega) (Nat.zero_le _)
  obtain ⟨g1, cap1, rfl⟩ : ∃ g cap, v' = .slice (some ⟨g, 0, none⟩) (L.length + 1) cap := by
    rcases hown2.2 with ⟨_, t⟩ | ⟨g, cap, cur, t, _⟩
    · omega
    · exact ⟨g, cap, t⟩
  rw [hown.2] at hgr hblk
  refine ⟨g1, cap1, w2, hrun, ?_, (oE.mono (fun j t => t.elim)).tr ⟨hgr.os, hgr.tape, hgr.output, hgr.size, fun k hk hn => hgr.block k hk (fun t => hn t.symm)⟩, ?_⟩
  · have e1 : boT (L ++ [⟨i, f, x, true, false⟩]) L.length = ⟨i, f, x, true, false⟩ := boT_at (by rw [List.getElem?_append_right (Nat.le_refl _)]; simp)
    have e2 : flat brow (boT (L ++ [⟨i, f, x, true, false⟩])) L.length = flat brow (boT L) L.length := flat_ext (fun j hj => boT_at (by rw [List.getElem?_append_left hj]; exact boT_some hj))
    have e : flat brow (boT (L ++ [⟨i, f, x, true, false⟩])) (L.length + 1) = flat brow (boT L) L.length ++ brow ⟨i, f, x, true, false⟩ := by
      rw [flat_succ, e1, e2]
    exact Row.of_owns encB (by rw [e]; exact hown2)
  · rcases hblk with t | t
    · left; exact t.symm
    · right
      have := oE.size
      have t' : some g1 = some _ := t
      injection t' with t'
      rw [t']; exact this

set_option maxRecDepth 100000 in
set_option maxHeartbeats 3200000 in
theorem l_boot0 {w : World} {q gs gm : Nat} {G : Option Nat} {W : Wd} {N : Nat} (h : Wl w q gs gm G W N) (hN : N ≤ 1048576) {i f x : Int} (hc : cwf (true, i, f, x)) (hm : W.me f = none) : Calls Try.prog 19 #[ptr q, .agg #[.bool true, .int .i64 i, .int .i64 f, .int .i64 x]] w (Lr w q gs gm G (N + 1) (cmd W (true, i, f, x))) := by
  obtain ⟨wfi, wff, wfx⟩ := hc
  have hcn : cmd W (true, i, f, x) = none := by unfold cmd; rw [if_pos rfl]; dsimp only; rw [hm]
  have HCN := Lib.hid hcn
  clear hcn
  have HM := Lib.hid hm
  obtain ⟨m0, hm0⟩ : ∃ m0 : Int, m0 = 0 := ⟨_, rfl⟩
  have hm0b : 0 ≤ m0 ∧ m0 ≤ 2147483647 := by omega
  clear hm
  go_enter Try.func19, Try.ntmps19
  go_wp2_with fail
  have HB1 := heap_alloc_new w (.cells #[.bool true, .int .i64 i, .int .i64 f, .int .i64 x] 38)
  have o1 := (Only.refl w (Ow q gs gm G)).alloc (.cells #[.bool true, .int .i64 i, .int .i64 f, .int .i64 x] 38)
  have h1 := h.below (((Below.refl _ _).alloc (Nat.le_refl _) (.cells #[.bool true, .int .i64 i, .int .i64 f, .int .i64 x] 38)))
  have hnq : ¬ Ow q gs gm G w.heap.size := fun t => by have := h.lt t; omega
  obtain ⟨H, hH⟩ : ∃ H, w.heap.size = H := ⟨_, rfl⟩
  rw [hH] at HB1 hnq
  try rw [hH]
  have HH := Lib.hid hH
  clear hH
  generalize w.alloc (.cells #[.bool true, .int .i64 i, .int .i64 f, .int .i64 x] 38) = w1 at HB1 o1 h1 ⊢
  refine (l_find h1 hN i).mono ?_
  rintro e w2 ⟨r, rfl, hfd, b2⟩
  have h2 := h1.below b2
  have o2 : Only w w2 (Ow q gs gm G) := o1.tr (Only.of_below b2)
  have hr2 : w2.heap[H]? = some (.cells #[.bool true, .int .i64 i, .int .i64 f, .int .i64 x] 38 (0, 0)) := by rw [b2.block H (lt_of_row HB1)]; exact HB1
  have HB2 := Lib.hid hr2
  have HNQ := Lib.hid hnq
  clear HB1 o1 h1 b2 hr2 hnq h
  clear hfd
  have z0 := (cellB HB2.out 0 _ rfl : w2.cell? ⟨H, 0, none⟩ = some (.bool true))
  have z2 := (cellB HB2.out 2 _ rfl : w2.cell? ⟨H, 2, none⟩ = some (.int .i64 f))
  have hl := (h2.lme wff).1
  rw [HM.out] at hl
  simp only [Option.getD_none, Option.isSome_none, ← hm0] at hl
  clear hm0
  have hl1 := hl 1
  have hl0 := hl 0
  have q2 := h2.q2.2.1
  go_wp2_with fail
  go_quiet (fail)
  have o3 := o2.drewN nq
  have h3 := h2.drewN nq
  have HB3 : Hid ((w2.drewN nq).heap[H]? = some (.cells #[.bool true, .int .i64 i, .int .i64 f, .int .i64 x] 38 (0, 0))) := HB2
  generalize w2.drewN nq = w3 at o3 h3 HB3 ⊢
  clear h2 o2 HB2 z0 z2 hl hl1 hl0 q2
  obtain ⟨v, hv1, hv2⟩ := h3.row
  obtain ⟨A, cap, rfl, hcap⟩ := hv2.slice
  obtain ⟨n, hn⟩ : ∃ n, W.L.length = n := ⟨_, rfl⟩
  rw [hn] at hv1 hv2
  have hnN : n ≤ 1048576 := by have := h3.gd.len; omega
  have q0 := cellB hv1 0 _ rfl
  have HN := Lib.hid hn
  clear hn hv1 hv2 hcap
  go_wp2_with fail
  go_loopg [8, 75] n (fun gk v8 v75 wr => ∃ (k : Nat) (S : Int), v75 = .int .i64 (k : Int) ∧ v8 = .int .i64 S ∧ k + gk = n ∧ Hid (S = m0 + usd W.me (W.L.take k) x) ∧ Hid (Wl wr q gs gm G W N) ∧ Hid (Only w wr (Ow q gs gm G)) ∧ Hid (wr.heap[H]? = some (.cells #[.bool true, .int .i64 i, .int .i64 f, .int .i64 x] 38 (0, 0))) ∧ Hid (wr.cell? ⟨q, 0, none⟩ = some (.slice A n cap)))
  case atStart => exact ⟨0, m0, rfl, rfl, by omega, Lib.hid (by simp [usd]), Lib.hid h3, Lib.hid o3, HB3, Lib.hid q0⟩
  case round =>
    clear h3 o3 HB3 q0
    obtain ⟨k, S, rfl, rfl, hkn, HS, HW, HO, HB, HQ⟩ := hrel
    have HK := Lib.hid hkn
    by_cases hk : k < n
    · have hki : (k : Int) < (n : Int) := by omega
      have hkl : k < W.L.length := by rw [HN.out]; exact hk
      obtain ⟨⟨bi, bf, bh, bb, bu⟩, hat⟩ : ∃ b, W.L[k]? = some b := ⟨_, boT_some hkl⟩
      obtain ⟨ad, cap', g, hAd, hG, y0', _, y1, y2, y3, y4, y5⟩ := HW.out.item hat
      have hq0 := HQ.out
      rw [hq0, HN.out] at y0'
      injection y0' with y0'
      injection y0' with e1 e2 e3
      subst e1
      have hus := usd_take (me := W.me) hat x
      have hb1 := usd_tbd HW.out.gd hN k x
      have hb2 := usd_tbd HW.out.gd hN (k + 1) x
      dsimp only at hus
      have h4 := HW.out.below ((Below.refl _ _).alloc (Nat.le_refl _) (.cells #[.int .i64 bi, .int .i64 bf, .int .i64 bh, .bool bb, .bool bu] 57))
      have hx4 := heap_alloc_new wr (.cells #[.int .i64 bi, .int .i64 bf, .int .i64 bh, .bool bb, .bool bu] 57)
      have o4 := HO.out.alloc (.cells #[.int .i64 bi, .int .i64 bf, .int .i64 bh, .bool bb, .bool bu] 57)
      have hB4 : Hid ((wr.alloc (.cells #[.int .i64 bi, .int .i64 bf, .int .i64 bh, .bool bb, .bool bu] 57)).heap[H]? = some (.cells #[.bool true, .int .i64 i, .int .i64 f, .int .i64 x] 38 (0, 0))) := Lib.hid (((Only.refl wr (fun _ => False)).alloc _).blk (fun t => t) HB.out)
      have hQ4 : Hid ((wr.alloc (.cells #[.int .i64 bi, .int .i64 bf, .int .i64 bh, .bool bb, .bool bu] 57)).cell? ⟨q, 0, none⟩ = some (.slice (some ad) n cap)) := Lib.hid (((Only.refl wr (fun _ => False)).alloc _).cell (fun t => t) HQ.out)
      have HX4 := Lib.hid hx4
      have HUS := Lib.hid hus
      have HAT := Lib.hid hat
      have z3 := (cellB hB4.out 3 _ rfl : (wr.alloc (.cells #[.int .i64 bi, .int .i64 bf, .int .i64 bh, .bool bb, .bool bu] 57)).cell? ⟨H, 3, none⟩ = some (.int .i64 x))
      clear hq0 hus hat hx4 hkn hAd hG e2 e3 HW HO HB HQ
      by_cases he : bh = x
      · subst he
        have hwfn := (h4.gd.wfs _ (List.mem_of_getElem? HAT.out)).1
        go_wp2_with fail
        obtain ⟨B, hB⟩ : ∃ B, wr.heap.size = B := ⟨_, rfl⟩
        rw [hB] at HX4
        rw [hB]
        clear y1 y2 y3 y4 y5 z3
        generalize wr.alloc (.cells #[.int .i64 bi, .int .i64 bf, .int .i64 bh, .bool bb, .bool bu] 57) = w5 at h4 o4 hB4 hQ4 HX4 ⊢
        have hl := (h4.lme hwfn).2
        have hl1 := hl 1
        have hl0 := hl 0
        have q2 := h4.q2.2.1
        have b1 := (cellB HX4.out 1 _ rfl : w5.cell? ⟨B, 1, none⟩ = some (.int .i64 bf))
        obtain ⟨mb, hmb⟩ : ∃ mb, (W.me bf).getD 0 = mb := ⟨_, rfl⟩
        rw [hmb] at hl hl1 hl0
        have HS2 : Hid (S + mb = m0 + usd W.me (W.L.take (k + 1)) bh) := Lib.hid (by rw [HUS.out, if_pos (by trivial), hmb, HS.out]; omega)
        have hw1 : IntKind.i64.wrap (S + mb) = S + mb := wr_small (by have := HS2.out; omega) (by have := HS2.out; omega)
        clear hmb hB
        go_quiet (fail)
        have o6 := o4.drewN nq
        have h6 := h4.drewN nq
        have hB6 : Hid ((w5.drewN nq).heap[H]? = some (.cells #[.bool true, .int .i64 i, .int .i64 f, .int .i64 bh] 38 (0, 0))) := hB4
        have hQ6 : Hid ((w5.drewN nq).cell? ⟨q, 0, none⟩ = some (.slice (some ad) n cap)) := hQ4
        generalize w5.drewN nq = w6 at o6 h6 hB6 hQ6 ⊢
        have H6 := Lib.hid h6
        have O6 := Lib.hid o6
        clear h4 o4 hB4 hQ4 HX4 hl hl1 hl0 q2 b1 hw1 h6 o6
        go_wp2_with fail
        go_roundg (n - k - 1)
        case measure => have := HK.out; omega
        case rel => exact ⟨k + 1, S + mb, by go_num, rfl, by have := HK.out; omega, HS2, H6, O6, hB6, hQ6⟩
      · have hd : (bh == x) = false := beq_false_of_ne he
        have HS2 : Hid (S = m0 + usd W.me (W.L.take (k + 1)) x) := Lib.hid (by rw [HUS.out, if_neg he, HS.out]; omega)
        have H4 := Lib.hid h4
        have O4 := Lib.hid o4
        clear he h4 o4 hb1 hb2
        go_wp2_with fail
        go_roundg (n - k - 1)
        case measure => have := HK.out; omega
        case rel => exact ⟨k + 1, S, by go_num, rfl, by have := HK.out; omega, HS2, H4, O4, hB4, hQ4⟩
    · obtain rfl : k = n := by omega
      have hd : decide ((k : Int) < (k : Int)) = false := by simp
      have hall : W.L.take k = W.L := by rw [← HN.out]; exact List.take_length
      rw [hall] at HS
      have h4 := HW.out
      have o4 := HO.out
      have q1 := h4.q2.1
      have q3 := h4.q2.2.2
      have z1 := (cellB HB.out 1 _ rfl : wr.cell? ⟨H, 1, none⟩ = some (.int .i64 i))
      have z3 := (cellB HB.out 3 _ rfl : wr.cell? ⟨H, 3, none⟩ = some (.int .i64 x))
      have hl := h4.lsz wfx
      have hl1 := hl 1
      have hl0 := hl 0
      clear hkn hk hall
      go_wp2_with fail
      go_quiet (fail)
      have o5 := o4.drewN nq
      generalize wr.drewN nq = w5 at o5 ⊢
      clear h4 o4 q1 q3 z1 z3 hl hl1 hl0 HW HO HB HQ
      go_wp2
      go_ret
      exact ⟨o5, Or.inl ⟨HCN.out, rfl⟩⟩

set_option maxRecDepth 100000 in
set_option maxHeartbeats 3200000 in
theorem l_boot1 {w : World} {q gs gm : Nat} {G : Option Nat} {W : Wd} {N : Nat} (h : Wl w q gs gm G W N) (hN : N ≤ 1048576) {i f x : Int} (hc : cwf (true, i, f, x)) {m0 : Int} (hm : W.me f = some m0) : Calls Try.prog 19 #[ptr q, .agg #[.bool true, .int .i64 i, .int .i64 f, .int .i64 x]] w (Lr w q gs gm G (N + 1) (cmd W (true, i, f, x))) := by
  obtain ⟨wfi, wff, wfx⟩ := hc
  have hcs : cmd W (true, i, f, x) = if i = W.nx ∧ usd W.me W.L x + m0 ≤ W.sz x then some (bootW W (true, i, f, x)) else none := by unfold cmd; rw [if_pos rfl]; dsimp only; rw [hm]
  have HCS := Lib.hid hcs
  clear hcs
  have HM := Lib.hid hm
  have hm0b := h.gd.mem _ _ hm
  clear hm
  go_enter Try.func19, Try.ntmps19
  go_wp2_with fail
  have HB1 := heap_alloc_new w (.cells #[.bool true, .int .i64 i, .int .i64 f, .int .i64 x] 38)
  have o1 := (Only.refl w (Ow q gs gm G)).alloc (.cells #[.bool true, .int .i64 i, .int .i64 f, .int .i64 x] 38)
  have h1 := h.below (((Below.refl _ _).alloc (Nat.le_refl _) (.cells #[.bool true, .int .i64 i, .int .i64 f, .int .i64 x] 38)))
  have hnq : ¬ Ow q gs gm G w.heap.size := fun t => by have := h.lt t; omega
  obtain ⟨H, hH⟩ : ∃ H, w.heap.size = H := ⟨_, rfl⟩
  rw [hH] at HB1 hnq
  try rw [hH]
  have HH := Lib.hid hH
  clear hH
  generalize w.alloc (.cells #[.bool true, .int .i64 i, .int .i64 f, .int .i64 x] 38) = w1 at HB1 o1 h1 ⊢
  refine (l_find h1 hN i).mono ?_
  rintro e w2 ⟨r, rfl, hfd, b2⟩
  have h2 := h1.below b2
  have o2 : Only w w2 (Ow q gs gm G) := o1.tr (Only.of_below b2)
  have hr2 : w2.heap[H]? = some (.cells #[.bool true, .int .i64 i, .int .i64 f, .int .i64 x] 38 (0, 0)) := by rw [b2.block H (lt_of_row HB1)]; exact HB1
  have HB2 := Lib.hid hr2
  have HNQ := Lib.hid hnq
  clear HB1 o1 h1 b2 hr2 hnq h
  clear hfd
  have z0 := (cellB HB2.out 0 _ rfl : w2.cell? ⟨H, 0, none⟩ = some (.bool true))
  have z2 := (cellB HB2.out 2 _ rfl : w2.cell? ⟨H, 2, none⟩ = some (.int .i64 f))
  have hl := (h2.lme wff).1
  rw [HM.out] at hl
  simp only [Option.getD_some, Option.isSome_some] at hl
  have hl1 := hl 1
  have hl0 := hl 0
  have q2 := h2.q2.2.1
  go_wp2_with fail
  go_quiet (fail)
  have o3 := o2.drewN nq
  have h3 := h2.drewN nq
  have HB3 : Hid ((w2.drewN nq).heap[H]? = some (.cells #[.bool true, .int .i64 i, .int .i64 f, .int .i64 x] 38 (0, 0))) := HB2
  generalize w2.drewN nq = w3 at o3 h3 HB3 ⊢
  clear h2 o2 HB2 z0 z2 hl hl1 hl0 q2
  obtain ⟨v, hv1, hv2⟩ := h3.row
  obtain ⟨A, cap, rfl, hcap⟩ := hv2.slice
  obtain ⟨n, hn⟩ : ∃ n, W.L.length = n := ⟨_, rfl⟩
  rw [hn] at hv1 hv2
  have hnN : n ≤ 1048576 := by have := h3.gd.len; omega
  have q0 := cellB hv1 0 _ rfl
  have HN := Lib.hid hn
  clear hn hv1 hv2 hcap
  go_wp2_with fail
  go_loopg [8, 75] n (fun gk v8 v75 wr => ∃ (k : Nat) (S : Int), v75 = .int .i64 (k : Int) ∧ v8 = .int .i64 S ∧ k + gk = n ∧ Hid (S = m0 + usd W.me (W.L.take k) x) ∧ Hid (Wl wr q gs gm G W N) ∧ Hid (Only w wr (Ow q gs gm G)) ∧ Hid (wr.heap[H]? = some (.cells #[.bool true, .int .i64 i, .int .i64 f, .int .i64 x] 38 (0, 0))) ∧ Hid (wr.cell? ⟨q, 0, none⟩ = some (.slice A n cap)))
  case atStart => exact ⟨0, m0, rfl, rfl, by omega, Lib.hid (by simp [usd]), Lib.hid h3, Lib.hid o3, HB3, Lib.hid q0⟩
  case round =>
    clear h3 o3 HB3 q0
    obtain ⟨k, S, rfl, rfl, hkn, HS, HW, HO, HB, HQ⟩ := hrel
    have HK := Lib.hid hkn
    by_cases hk : k < n
    · have hki : (k : Int) < (n : Int) := by omega
      have hkl : k < W.L.length := by rw [HN.out]; exact hk
      obtain ⟨⟨bi, bf, bh, bb, bu⟩, hat⟩ : ∃ b, W.L[k]? = some b := ⟨_, boT_some hkl⟩
      obtain ⟨ad, cap', g, hAd, hG, y0', _, y1, y2, y3, y4, y5⟩ := HW.out.item hat
      have hq0 := HQ.out
      rw [hq0, HN.out] at y0'
      injection y0' with y0'
      injection y0' with e1 e2 e3
      subst e1
      have hus := usd_take (me := W.me) hat x
      have hb1 := usd_tbd HW.out.gd hN k x
      have hb2 := usd_tbd HW.out.gd hN (k + 1) x
      dsimp only at hus
      have h4 := HW.out.below ((Below.refl _ _).alloc (Nat.le_refl _) (.cells #[.int .i64 bi, .int .i64 bf, .int .i64 bh, .bool bb, .bool bu] 57))
      have hx4 := heap_alloc_new wr (.cells #[.int .i64 bi, .int .i64 bf, .int .i64 bh, .bool bb, .bool bu] 57)
      have o4 := HO.out.alloc (.cells #[.int .i64 bi, .int .i64 bf, .int .i64 bh, .bool bb, .bool bu] 57)
      have hB4 : Hid ((wr.alloc (.cells #[.int .i64 bi, .int .i64 bf, .int .i64 bh, .bool bb, .bool bu] 57)).heap[H]? = some (.cells #[.bool true, .int .i64 i, .int .i64 f, .int .i64 x] 38 (0, 0))) := Lib.hid (((Only.refl wr (fun _ => False)).alloc _).blk (fun t => t) HB.out)
      have hQ4 : Hid ((wr.alloc (.cells #[.int .i64 bi, .int .i64 bf, .int .i64 bh, .bool bb, .bool bu] 57)).cell? ⟨q, 0, none⟩ = some (.slice (some ad) n cap)) := Lib.hid (((Only.refl wr (fun _ => False)).alloc _).cell (fun t => t) HQ.out)
      have HX4 := Lib.hid hx4
      have HUS := Lib.hid hus
      have HAT := Lib.hid hat
      have z3 := (cellB hB4.out 3 _ rfl : (wr.alloc (.cells #[.int .i64 bi, .int .i64 bf, .int .i64 bh, .bool bb, .bool bu] 57)).cell? ⟨H, 3, none⟩ = some (.int .i64 x))
      clear hq0 hus hat hx4 hkn hAd hG e2 e3 HW HO HB HQ
      by_cases he : bh = x
      · subst he
        have hwfn := (h4.gd.wfs _ (List.mem_of_getElem? HAT.out)).1
        go_wp2_with fail
        obtain ⟨B, hB⟩ : ∃ B, wr.heap.size = B := ⟨_, rfl⟩
        rw [hB] at HX4
        rw [hB]
        clear y1 y2 y3 y4 y5 z3
        generalize wr.alloc (.cells #[.int .i64 bi, .int .i64 bf, .int .i64 bh, .bool bb, .bool bu] 57) = w5 at h4 o4 hB4 hQ4 HX4 ⊢
        have hl := (h4.lme hwfn).2
        have hl1 := hl 1
        have hl0 := hl 0
        have q2 := h4.q2.2.1
        have b1 := (cellB HX4.out 1 _ rfl : w5.cell? ⟨B, 1, none⟩ = some (.int .i64 bf))
        obtain ⟨mb, hmb⟩ : ∃ mb, (W.me bf).getD 0 = mb := ⟨_, rfl⟩
        rw [hmb] at hl hl1 hl0
        have HS2 : Hid (S + mb = m0 + usd W.me (W.L.take (k + 1)) bh) := Lib.hid (by rw [HUS.out, if_pos (by trivial), hmb, HS.out]; omega)
        have hw1 : IntKind.i64.wrap (S + mb) = S + mb := wr_small (by have := HS2.out; omega) (by have := HS2.out; omega)
        clear hmb hB
        go_quiet (fail)
        have o6 := o4.drewN nq
        have h6 := h4.drewN nq
        have hB6 : Hid ((w5.drewN nq).heap[H]? = some (.cells #[.bool true, .int .i64 i, .int .i64 f, .int .i64 bh] 38 (0, 0))) := hB4
        have hQ6 : Hid ((w5.drewN nq).cell? ⟨q, 0, none⟩ = some (.slice (some ad) n cap)) := hQ4
        generalize w5.drewN nq = w6 at o6 h6 hB6 hQ6 ⊢
        have H6 := Lib.hid h6
        have O6 := Lib.hid o6
        clear h4 o4 hB4 hQ4 HX4 hl hl1 hl0 q2 b1 hw1 h6 o6
        go_wp2_with fail
        go_roundg (n - k - 1)
        case measure => have := HK.out; omega
        case rel => exact ⟨k + 1, S + mb, by go_num, rfl, by have := HK.out; omega, HS2, H6, O6, hB6, hQ6⟩
      · have hd : (bh == x) = false := beq_false_of_ne he
        have HS2 : Hid (S = m0 + usd W.me (W.L.take (k + 1)) x) := Lib.hid (by rw [HUS.out, if_neg he, HS.out]; omega)
        have H4 := Lib.hid h4
        have O4 := Lib.hid o4
        clear he h4 o4 hb1 hb2
        go_wp2_with fail
        go_roundg (n - k - 1)
        case measure => have := HK.out; omega
        case rel => exact ⟨k + 1, S, by go_num, rfl, by have := HK.out; omega, HS2, H4, O4, hB4, hQ4⟩
    · obtain rfl : k = n := by omega
      have hd : decide ((k : Int) < (k : Int)) = false := by simp
      have hall : W.L.take k = W.L := by rw [← HN.out]; exact List.take_length
      rw [hall] at HS
      have h4 := HW.out
      have o4 := HO.out
      have q1 := h4.q2.1
      have q3 := h4.q2.2.2
      have z1 := (cellB HB.out 1 _ rfl : wr.cell? ⟨H, 1, none⟩ = some (.int .i64 i))
      have z3 := (cellB HB.out 3 _ rfl : wr.cell? ⟨H, 3, none⟩ = some (.int .i64 x))
      have hl := h4.lsz wfx
      have hl1 := hl 1
      have hl0 := hl 0
      clear hkn hk hall
      by_cases hi : i = W.nx
      · by_cases hfit : S ≤ W.sz x
        · have hd2 : decide (W.sz x < S) = false := dec_f (by omega)
          have HCM : Hid (cmd W (true, i, f, x) = some (bootW W (true, i, f, x))) := Lib.hid (by rw [HCS.out, if_pos ⟨hi, by have := HS.out; omega⟩])
          subst hi
          go_wp2_with fail
          go_quiet (fail)
          have o5 := o4.drewN nq
          have h5 := h4.drewN nq
          have HB5 : Hid ((wr.drewN nq).heap[H]? = some (.cells #[.bool true, .int .i64 W.nx, .int .i64 f, .int .i64 x] 38 (0, 0))) := HB
          generalize wr.drewN nq = w5 at o5 h5 HB5 ⊢
          clear h4 o4 q1 q3 z1 z3 hl hl1 hl0 HW HO HB HQ
          go_wp2_with fail
          obtain ⟨v5, hv1, hv2⟩ := h5.row
          have z1 := (cellB HB5.out 1 _ rfl : w5.cell? ⟨H, 1, none⟩ = some (.int .i64 W.nx))
          have z2 := (cellB HB5.out 2 _ rfl : w5.cell? ⟨H, 2, none⟩ = some (.int .i64 f))
          have z3 := (cellB HB5.out 3 _ rfl : w5.cell? ⟨H, 3, none⟩ = some (.int .i64 x))
          obtain ⟨g6, cap6, w6, hrun, row6, on6, hg6⟩ := run_one hv2 W.nx f x (by have := h5.gd.len; omega)
          have q0 := cellB hv1 0 _ rfl
          have hqw := lt_of_row hv1
          have hq6 := on6.blk (fun t => (h5.d4 q t).1 rfl) hv1
          have c6 := cellB hq6 0 _ rfl
          have fz6 := frozen_of_row w6 q 0 _ _ hq6
          simp [go_sem] at hrun
          have hset : w6.grownBy (w6.setCell ⟨q, 0, none⟩ (.slice (some ⟨g6, 0, none⟩) (W.L.length + 1) cap6)) (some q) := grown_set w6 0 q 0 (.slice (some ⟨g6, 0, none⟩) (W.L.length + 1) cap6)
          have hr7 := set_rowL (cs := [v5, .map (some gs), .map (some gm), .int .i64 W.nx]) hq6 0 (.slice (some ⟨g6, 0, none⟩) (W.L.length + 1) cap6)
          have H5 := Lib.hid h5
          have O5 := Lib.hid o5
          have O6 := Lib.hid on6
          have HG6 := Lib.hid hg6
          have HR6 := Lib.hid row6
          have HS7 := Lib.hid hset
          have HR7 := Lib.hid hr7
          clear hset hr7 h5 o5 on6 hg6 row6 hv1 hv2 hq6 HB5
          go_region
          clear hrun c6 fz6 q0 z1 z2 z3
          generalize w6.setCell ⟨q, 0, none⟩ (.slice (some ⟨g6, 0, none⟩) (W.L.length + 1) cap6) = w7 at HS7 HR7 ⊢
          have hr7 := HR7.out
          have q3 : w7.cell? ⟨q, 3, none⟩ = some (.int .i64 W.nx) := cellL hr7 3 _ rfl
          have hnb : 1 ≤ W.nx ∧ W.nx ≤ 1048577 := by have := H5.out.gd.nx1; have := H5.out.gd.nxN; omega
          have hwn : IntKind.i64.wrap (W.nx + 1) = W.nx + 1 := wr_small (by omega) (by omega)
          go_wp2_with (with_reducible refine wpList_store_in rfl 3 (.tmp 138) (.tmp 136) rfl (by kernel_rfl) q 3 rfl .i64 (W.nx + 1) rfl _ _ hr7 (by simp) ?_; intro w8 m8 g8)
          go_ret
          obtain ⟨hw8, ho8⟩ := boot_done (f := f) (x := x) H5.out O6.out HG6.out HR6.out HS7.out g8 m8.out (H5.out.gd.cmd ⟨wfi, wff, wfx⟩ HCM.out)
          have hsz := O5.out.size
          exact ⟨O5.out.tr ho8, Or.inr ⟨_, some g6, HCM.out, rfl, hw8, fun g hg => by
            cases hg
            exact HG6.out.imp id (fun t => Nat.le_trans hsz t)⟩⟩
        · have hd2 : decide (W.sz x < S) = true := decide_eq_true (by omega)
          have HCM : Hid (cmd W (true, i, f, x) = none) := Lib.hid (by rw [HCS.out, if_neg (fun t => hfit (by have := HS.out; have := t.2; omega))])
          subst hi
          go_wp2_with fail
          go_quiet (fail)
          have o5 := o4.drewN nq
          generalize wr.drewN nq = w5 at o5 ⊢
          clear h4 o4 q1 q3 z1 z3 hl hl1 hl0 HW HO HB HQ
          go_wp2
          go_ret
          exact ⟨o5, Or.inl ⟨HCM.out, rfl⟩⟩
      · have hd2 : (i == W.nx) = false := beq_false_of_ne hi
        have HCM : Hid (cmd W (true, i, f, x) = none) := Lib.hid (by rw [HCS.out, if_neg (fun t => hi t.1)])
        go_wp2_with fail
        go_quiet (fail)
        have o5 := o4.drewN nq
        generalize wr.drewN nq = w5 at o5 ⊢
        clear h4 o4 q1 q3 z1 z3 hl hl1 hl0 HW HO HB HQ
        go_wp2
        go_ret
        exact ⟨o5, Or.inl ⟨HCM.out, rfl⟩⟩

set_option maxRecDepth 100000 in
set_option maxHeartbeats 3200000 in
theorem l_cmd {w : World} {q gs gm : Nat} {G : Option Nat} {W : Wd} {N : Nat} (h : Wl w q gs gm G W N) (hN : N ≤ 1048576) {c : Cmd} (hc : cwf c) : Calls Try.prog 19 #[ptr q, .agg #[.bool c.1, .int .i64 c.2.1, .int .i64 c.2.2.1, .int .i64 c.2.2.2]] w (Lr w q gs gm G (N + 1) (cmd W c)) := by
  obtain ⟨bt, i, f, x⟩ := c
  cases bt with
  | true =>
    cases hm : W.me f with
    | none => exact l_boot0 h hN hc hm
    | some m => exact l_boot1 h hN hc hm
  | false =>
    have hcm : cmd W (false, i, f, x) = (match fnd W.L i with
      | some b => if b.busy = false ∧ b.fn = f ∧ b.ho = x then some { W with L := drp W.L i } else none
      | none => none) := by unfold cmd; rw [if_neg (by simp)]; rfl
    rw [hcm]
    cases hf : fnd W.L i with
    | none => exact (l_kill0 h hN hf).mono fun _ _ k => k.up (by omega)
    | some b =>
      dsimp only
      cases hu : b.busy with
      | true => rw [if_neg (by simp)]; exact (l_kill1 h hN hf hu).mono fun _ _ k => k.up (by omega)
      | false =>
        by_cases e1 : b.fn = f
        · by_cases e2 : b.ho = x
          · rw [if_pos ⟨rfl, e1, e2⟩]; exact (l_kill4 h hN hf hu e1 e2).mono fun _ _ k => k.up (by omega)
          · rw [if_neg (fun t => e2 t.2.2)]; exact (l_kill3 h hN hf hu e1 e2).mono fun _ _ k => k.up (by omega)
        · rw [if_neg (fun t => e1 t.2.1)]; exact (l_kill2 h hN hf hu e1).mono fun _ _ k => k.up (by omega)

end Go.Proofs.Ytgpookphacdgoaa.W.U
