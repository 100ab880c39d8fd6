/- Package timer: which key comes first; Next. -/
import Derived.Test.YtkldoeillkfpbaaTimB
namespace Go.Proofs.Ytkldoeillkfpbaa.W.HT
open Go.RowKit

/-- Of these times key k's, which is t, comes first. -/
def Fst (A : K → Option Int) (k : K) (t : Int) : Prop := A k = some t ∧ ∀ k' t', A k' = some t' → lt (t', k') (t, k) = false
theorem lt_tot {a b : V} (h : lt a b = false) (h' : lt b a = false) : a = b := by
  have h1 := of_decide_eq_false h
  have h2 := of_decide_eq_false h'
  obtain ⟨a1, a2, a3⟩ := a
  obtain ⟨b1, b2, b3⟩ := b
  simp only [] at h1 h2
  obtain ⟨rfl, rfl, rfl⟩ : a1 = b1 ∧ a2 = b2 ∧ a3 = b3 := by omega
  rfl
theorem Fst.uniq {A : K → Option Int} {k k' : K} {t t' : Int} (h : Fst A k t) (h' : Fst A k' t') : k = k' ∧ t = t' := by
  have := lt_tot (h'.2 k t h.1) (h.2 k' t' h'.1)
  injection this with a b
  exact ⟨b, a⟩
theorem Fst.le {A : K → Option Int} {k k' : K} {t t' : Int} (h : Fst A k t) (h' : A k' = some t') : t ≤ t' := by
  have := of_decide_eq_false (h.2 k' t' h')
  simp only [] at this
  omega
theorem Ta.fst {w : World} {c r n : Nat} {A : K → Option Int} {Y : Nat → Prop} (h : Ta w c r n A Y) (hn : 0 < n) : ∃ k t, Fst A k t := by
  obtain ⟨G, B, sv, T, M, hp, _⟩ := h.ob
  have h1 := hp.full.mn odr hn
  obtain ⟨a1, a2⟩ := Mo_inv h1.1
  refine ⟨_, _, a1, fun k' t' q => ?_⟩
  have := h1.2 k' _ (Mo_at q)
  rw [← a2]; exact this
theorem Tq.fst {P : Nat → Prop} {w : World} {c n : Nat} {A : K → Option Int} (h : Tq P w c n A) (hn : 0 < n) : ∃ k t, Fst A k t := by
  rcases h.2 with ⟨_, h1, _⟩ | ⟨r, Y, h1, h2⟩
  · omega
  · exact h1.fst hn
/-- What Min tells. -/
theorem Fst.min {A : K → Option Int} {k : K} {v : V} (h : Mo A k = some v) (h' : ∀ k' v', Mo A k' = some v' → lt v' v = false) : Fst A k v.1 ∧ v.2 = k := by
  obtain ⟨a1, a2⟩ := Mo_inv h
  refine ⟨⟨a1, fun k' t' q => ?_⟩, a2⟩
  have := h' k' _ (Mo_at q)
  rw [← a2]; exact this

set_option maxRecDepth 100000 in
set_option maxHeartbeats 1600000 in
theorem t_next0 {P : Nat → Prop} (w : World) (c n : Nat) (A : K → Option Int) (now : Int) (h : Tq P w c n A) (hn : n < 1073741824) (h0 : ∀ k t, A k = some t → now < t) (hP : ∀ j, w.heap.size ≤ j → P j) :
    Calls Try.prog 14 #[.pointer (some ⟨c, 0, none⟩), .int .i64 now] w fun e w' => e = .returned (.tuple #[.agg #[.int .i64 0, .int .i64 0], .bool false]) ∧ Tq P w' c n A ∧ Only w w' P := by
  rcases Nat.eq_zero_or_pos n with rfl | hn0
  · clear h0
    go_enter Try.func14, Try.ntmps14
    go_upto_region 1 with (fail)
    have b1 : Below w.heap.size w (w.alloc (.cells #[.int .i64 0, .int .i64 0] 30)) := (Below.refl _ _).alloc (Nat.le_refl _) _
    have HBR := Lib.hid (heap_alloc_new w (.cells #[.int .i64 0, .int .i64 0] 30))
    obtain ⟨R, hR⟩ : ∃ R, w.heap.size = R := ⟨_, rfl⟩
    have hx : Tq (fun j => P j ∧ j ≠ R) (w.alloc (.cells #[.int .i64 0, .int .i64 0] 30)) c 0 A := (h.tight.below b1).mono (fun j q => ⟨q.1, by omega⟩)
    have hRc : R ≠ c := by have := h.lt; omega
    have hRw : w.heap.size ≤ R := by omega
    have hPc := h.1
    rw [hR] at HBR
    rw [hR]
    clear hR h
    have hRlt := lt_of_row HBR.out
    generalize w.alloc (.cells #[.int .i64 0, .int .i64 0] 30) = w1 at b1 HBR hx hRlt ⊢
    have hPx : ∀ j, w1.heap.size ≤ j → (fun j => P j ∧ j ≠ R) j := fun j q => ⟨hP j (Nat.le_trans b1.size q), by omega⟩
    go_wp2_with fail
    refine (all_any w1 c 0 A hx hPx).mono ?_
    rintro e w3 ⟨r, Y, rfl, h3, h4, o3⟩
    have HBR3 := Lib.hid (o3.blk hRc HBR.out)
    go_wp2_with fail
    refine (min_none r FS (Mo A) Y w3 h3.ob).mono ?_
    rintro e w2 ⟨rfl, b2⟩
    have h5 := h3.kept (Only.of_below (S := fun _ => False) b2) (fun q => q) (fun _ _ q => q)
    have HBR2 := (Only.of_below (S := fun _ => False) b2).blk (fun q => q) HBR3.out
    have o2 : Only w w2 P := ((Only.of_below (S := P) b1).tr (o3.mono (fun j q => by rw [q]; exact hPc))).tr (Only.of_below b2)
    go_upto_region 2 with (fail)
    have oa : Only w2 ((w2.alloc (.cells #[.int .i64 0, .int .i64 0] 30)).alloc (.cells #[.int .i64 0, .int .i64 0, .int .i64 0] 77)) (fun _ => False) := ((Only.refl w2 _).alloc _).alloc _
    have HK : Hid (((w2.alloc (.cells #[.int .i64 0, .int .i64 0] 30)).alloc (.cells #[.int .i64 0, .int .i64 0, .int .i64 0] 77)).heap[w2.heap.size]? = some (.cells #[.int .i64 0, .int .i64 0] 30)) := Lib.hid ((Only.alloc (Only.refl (w2.alloc (.cells #[.int .i64 0, .int .i64 0] 30)) (fun _ => False)) _).blk (fun q => q) (heap_alloc_new w2 _))
    have HV : Hid (((w2.alloc (.cells #[.int .i64 0, .int .i64 0] 30)).alloc (.cells #[.int .i64 0, .int .i64 0, .int .i64 0] 77)).heap[w2.heap.size + 1]? = some (.cells #[.int .i64 0, .int .i64 0, .int .i64 0] 77)) := Lib.hid (by have := heap_alloc_new (w2.alloc (.cells #[.int .i64 0, .int .i64 0] 30)) (.cells #[.int .i64 0, .int .i64 0, .int .i64 0] 77); rwa [World.size_alloc] at this)
    have h6 := h5.kept oa (fun q => q) (fun _ _ q => q)
    have HBR4 := Lib.hid (oa.blk (fun q => q) HBR2)
    have o4 : Only w ((w2.alloc (.cells #[.int .i64 0, .int .i64 0] 30)).alloc (.cells #[.int .i64 0, .int .i64 0, .int .i64 0] 77)) P := o2.trans oa (fun _ q => q.elim)
    generalize ((w2.alloc (.cells #[.int .i64 0, .int .i64 0] 30)).alloc (.cells #[.int .i64 0, .int .i64 0, .int .i64 0] 77)) = w4 at oa HK HV h6 HBR4 o4 ⊢
    have v0 := cell_of_row _ _ 0 _ _ _ HV.out
    go_wp2_with (with_reducible refine wpList_store_key rfl (.tmp 4) (.tmp 24) rfl R 0 0 rfl rfl 0 0 HBR4 ?_; intro w5 HB5 hg5)
    have o5 : Only w4 w5 (fun j => j = R) := Only.grown hg5 (Or.inl rfl)
    have z0 := cell_of_row _ _ 0 _ _ _ HB5.out
    have z1 := cell_of_row _ _ 1 _ _ _ HB5.out
    have h7 := h6.kept o5 (fun q => hRc q.symm) (fun j q e => (h4 j q).2 e)
    exact bodyPost_ret (v := .tuple #[.agg #[.int .i64 0, .int .i64 0], .bool false]) (by simp [results, Try.results14, go_sem, z0, z1]) rfl ⟨rfl, ⟨hPc, Or.inr ⟨r, Y, h7, fun j q => (h4 j q).1⟩⟩, o4.trans o5 (fun j q => by rw [q]; exact Or.inr hRw)⟩
  · have H0 := Lib.hid h0
    clear h0
    go_enter Try.func14, Try.ntmps14
    go_upto_region 1 with (fail)
    have b1 : Below w.heap.size w (w.alloc (.cells #[.int .i64 0, .int .i64 0] 30)) := (Below.refl _ _).alloc (Nat.le_refl _) _
    have HBR := Lib.hid (heap_alloc_new w (.cells #[.int .i64 0, .int .i64 0] 30))
    obtain ⟨R, hR⟩ : ∃ R, w.heap.size = R := ⟨_, rfl⟩
    have hx : Tq (fun j => P j ∧ j ≠ R) (w.alloc (.cells #[.int .i64 0, .int .i64 0] 30)) c n A := (h.tight.below b1).mono (fun j q => ⟨q.1, by omega⟩)
    have hRc : R ≠ c := by have := h.lt; omega
    have hRw : w.heap.size ≤ R := by omega
    have hPc := h.1
    rw [hR] at HBR
    rw [hR]
    clear hR h
    have hRlt := lt_of_row HBR.out
    generalize w.alloc (.cells #[.int .i64 0, .int .i64 0] 30) = w1 at b1 HBR hx hRlt ⊢
    have hPx : ∀ j, w1.heap.size ≤ j → (fun j => P j ∧ j ≠ R) j := fun j q => ⟨hP j (Nat.le_trans b1.size q), by omega⟩
    go_wp2_with fail
    refine (all_any w1 c n A hx hPx).mono ?_
    rintro e w3 ⟨r, Y, rfl, h3, h4, o3⟩
    have HBR3 := Lib.hid (o3.blk hRc HBR.out)
    go_wp2_with fail
    refine (min_some r FS n (Mo A) Y w3 h3.ob hn0 hn).mono ?_
    rintro e w2 ⟨k, v, rfl, hA, hmin, b2⟩
    obtain ⟨hF, hv2⟩ := Fst.min hA hmin
    have hlt := H0.out k v.1 hF.1
    have hdt : decide (now < v.1) = true := by simp; exact hlt
    clear hA hmin hF hv2 hlt
    have h5 := h3.kept (Only.of_below (S := fun _ => False) b2) (fun q => q) (fun _ _ q => q)
    have HBR2 := (Only.of_below (S := fun _ => False) b2).blk (fun q => q) HBR3.out
    have o2 : Only w w2 P := ((Only.of_below (S := P) b1).tr (o3.mono (fun j q => by rw [q]; exact hPc))).tr (Only.of_below b2)
    go_upto_region 2 with (fail)
    have oa : Only w2 ((w2.alloc (.cells #[.int .i64 k.1, .int .i64 k.2] 30)).alloc (.cells #[.int .i64 v.1, .int .i64 v.2.1, .int .i64 v.2.2] 77)) (fun _ => False) := ((Only.refl w2 _).alloc _).alloc _
    have HK : Hid (((w2.alloc (.cells #[.int .i64 k.1, .int .i64 k.2] 30)).alloc (.cells #[.int .i64 v.1, .int .i64 v.2.1, .int .i64 v.2.2] 77)).heap[w2.heap.size]? = some (.cells #[.int .i64 k.1, .int .i64 k.2] 30)) := Lib.hid ((Only.alloc (Only.refl (w2.alloc (.cells #[.int .i64 k.1, .int .i64 k.2] 30)) (fun _ => False)) _).blk (fun q => q) (heap_alloc_new w2 _))
    have HV : Hid (((w2.alloc (.cells #[.int .i64 k.1, .int .i64 k.2] 30)).alloc (.cells #[.int .i64 v.1, .int .i64 v.2.1, .int .i64 v.2.2] 77)).heap[w2.heap.size + 1]? = some (.cells #[.int .i64 v.1, .int .i64 v.2.1, .int .i64 v.2.2] 77)) := Lib.hid (by have := heap_alloc_new (w2.alloc (.cells #[.int .i64 k.1, .int .i64 k.2] 30)) (.cells #[.int .i64 v.1, .int .i64 v.2.1, .int .i64 v.2.2] 77); rwa [World.size_alloc] at this)
    have h6 := h5.kept oa (fun q => q) (fun _ _ q => q)
    have HBR4 := Lib.hid (oa.blk (fun q => q) HBR2)
    have o4 : Only w ((w2.alloc (.cells #[.int .i64 k.1, .int .i64 k.2] 30)).alloc (.cells #[.int .i64 v.1, .int .i64 v.2.1, .int .i64 v.2.2] 77)) P := o2.trans oa (fun _ q => q.elim)
    generalize ((w2.alloc (.cells #[.int .i64 k.1, .int .i64 k.2] 30)).alloc (.cells #[.int .i64 v.1, .int .i64 v.2.1, .int .i64 v.2.2] 77)) = w4 at oa HK HV h6 HBR4 o4 ⊢
    have v0 := cell_of_row _ _ 0 _ _ _ HV.out
    go_wp2_with (with_reducible refine wpList_store_key rfl (.tmp 4) (.tmp 24) rfl R 0 0 rfl rfl 0 0 HBR4 ?_; intro w5 HB5 hg5)
    have o5 : Only w4 w5 (fun j => j = R) := Only.grown hg5 (Or.inl rfl)
    have z0 := cell_of_row _ _ 0 _ _ _ HB5.out
    have z1 := cell_of_row _ _ 1 _ _ _ HB5.out
    have h7 := h6.kept o5 (fun q => hRc q.symm) (fun j q e => (h4 j q).2 e)
    exact bodyPost_ret (v := .tuple #[.agg #[.int .i64 0, .int .i64 0], .bool false]) (by simp [results, Try.results14, go_sem, z0, z1]) rfl ⟨rfl, ⟨hPc, Or.inr ⟨r, Y, h7, fun j q => (h4 j q).1⟩⟩, o4.trans o5 (fun j q => by rw [q]; exact Or.inr hRw)⟩

set_option maxRecDepth 100000 in
set_option maxHeartbeats 1600000 in
theorem t_next1 {P : Nat → Prop} (w : World) (c n : Nat) (A : K → Option Int) (now : Int) (h : Tq P w c n A) (hn : n < 1073741824) (k : K) (t : Int) (hF0 : Fst A k t) (ht : t ≤ now) (n1 : Nat) (hn1 : n = n1 + 1) (hP : ∀ j, w.heap.size ≤ j → P j) :
    Calls Try.prog 14 #[.pointer (some ⟨c, 0, none⟩), .int .i64 now] w fun e w' => e = .returned (.tuple #[kv k, .bool true]) ∧ Tq P w' c n1 (updZ A k none) ∧ Only w w' P := by
  have hn0 : 0 < n := by omega
  have hk := (h.okA hF0.1).2.1
  have HN1 := Lib.hid hn1
  have HF0 := Lib.hid hF0
  have HT := Lib.hid ht
  clear hn1 hF0 ht
  go_enter Try.func14, Try.ntmps14
  go_upto_region 1 with (fail)
  have b1 : Below w.heap.size w (w.alloc (.cells #[.int .i64 0, .int .i64 0] 30)) := (Below.refl _ _).alloc (Nat.le_refl _) _
  have HBR := Lib.hid (heap_alloc_new w (.cells #[.int .i64 0, .int .i64 0] 30))
  obtain ⟨R, hR⟩ : ∃ R, w.heap.size = R := ⟨_, rfl⟩
  have hx : Tq (fun j => P j ∧ j ≠ R) (w.alloc (.cells #[.int .i64 0, .int .i64 0] 30)) c n A := (h.tight.below b1).mono (fun j q => ⟨q.1, by omega⟩)
  have hRc : R ≠ c := by have := h.lt; omega
  have hRw : w.heap.size ≤ R := by omega
  have hPc := h.1
  rw [hR] at HBR
  rw [hR]
  clear hR h
  have hRlt := lt_of_row HBR.out
  generalize w.alloc (.cells #[.int .i64 0, .int .i64 0] 30) = w1 at b1 HBR hx hRlt ⊢
  have hPx : ∀ j, w1.heap.size ≤ j → (fun j => P j ∧ j ≠ R) j := fun j q => ⟨hP j (Nat.le_trans b1.size q), by omega⟩
  go_wp2_with fail
  refine (all_any w1 c n A hx hPx).mono ?_
  rintro e w3 ⟨r, Y, rfl, h3, h4, o3⟩
  have HBR3 := Lib.hid (o3.blk hRc HBR.out)
  go_wp2_with fail
  refine (min_some r FS n (Mo A) Y w3 h3.ob hn0 hn).mono ?_
  rintro e w2 ⟨k₂, v, rfl, hA, hmin, b2⟩
  obtain ⟨hF, hv2⟩ := Fst.min hA hmin
  obtain ⟨ek, et⟩ := HF0.out.uniq hF
  subst ek
  have hdt : decide (now < v.1) = false := by simp; rw [← et]; exact HT.out
  have HA := Lib.hid hA
  clear hA hmin hF hv2 et
  have h5 := h3.kept (Only.of_below (S := fun _ => False) b2) (fun q => q) (fun _ _ q => q)
  have HBR2 := (Only.of_below (S := fun _ => False) b2).blk (fun q => q) HBR3.out
  have o2 : Only w w2 P := ((Only.of_below (S := P) b1).tr (o3.mono (fun j q => by rw [q]; exact hPc))).tr (Only.of_below b2)
  go_upto_region 2 with (fail)
  have oa : Only w2 ((w2.alloc (.cells #[.int .i64 k.1, .int .i64 k.2] 30)).alloc (.cells #[.int .i64 v.1, .int .i64 v.2.1, .int .i64 v.2.2] 77)) (fun _ => False) := ((Only.refl w2 _).alloc _).alloc _
  have HK : Hid (((w2.alloc (.cells #[.int .i64 k.1, .int .i64 k.2] 30)).alloc (.cells #[.int .i64 v.1, .int .i64 v.2.1, .int .i64 v.2.2] 77)).heap[w2.heap.size]? = some (.cells #[.int .i64 k.1, .int .i64 k.2] 30)) := Lib.hid ((Only.alloc (Only.refl (w2.alloc (.cells #[.int .i64 k.1, .int .i64 k.2] 30)) (fun _ => False)) _).blk (fun q => q) (heap_alloc_new w2 _))
  have HV : Hid (((w2.alloc (.cells #[.int .i64 k.1, .int .i64 k.2] 30)).alloc (.cells #[.int .i64 v.1, .int .i64 v.2.1, .int .i64 v.2.2] 77)).heap[w2.heap.size + 1]? = some (.cells #[.int .i64 v.1, .int .i64 v.2.1, .int .i64 v.2.2] 77)) := Lib.hid (by have := heap_alloc_new (w2.alloc (.cells #[.int .i64 k.1, .int .i64 k.2] 30)) (.cells #[.int .i64 v.1, .int .i64 v.2.1, .int .i64 v.2.2] 77); rwa [World.size_alloc] at this)
  have h6 := h5.kept oa (fun q => q) (fun _ _ q => q)
  have HBR4 := Lib.hid (oa.blk (fun q => q) HBR2)
  have o4 : Only w ((w2.alloc (.cells #[.int .i64 k.1, .int .i64 k.2] 30)).alloc (.cells #[.int .i64 v.1, .int .i64 v.2.1, .int .i64 v.2.2] 77)) P := o2.trans oa (fun _ q => q.elim)
  generalize ((w2.alloc (.cells #[.int .i64 k.1, .int .i64 k.2] 30)).alloc (.cells #[.int .i64 v.1, .int .i64 v.2.1, .int .i64 v.2.2] 77)) = w4 at oa HK HV h6 HBR4 o4 ⊢
  have v0 := cell_of_row _ _ 0 _ _ _ HV.out
  have hKR : w2.heap.size ≠ R := by have := lt_of_row HBR2; omega
  have hKc : w2.heap.size ≠ c := by have := lt_of_row h5.blk; omega
  have hx4 : Tq (fun j => P j ∧ j ≠ R ∧ j ≠ w2.heap.size) w4 c n A := ⟨⟨hPc, hRc.symm, hKc.symm⟩, Or.inr ⟨r, Y, h6, fun j q => ⟨(h4 j q).1, (h4 j q).2, by have := h5.ob.lt j q; omega⟩⟩⟩
  have hw4 : w2.heap.size < w4.heap.size := lt_of_row HK.out
  have hRl := lt_of_row HBR4.out
  have hPd : ∀ j, w4.drew.heap.size ≤ j → (fun j => P j ∧ j ≠ R ∧ j ≠ w2.heap.size) j := fun j q => by have q' : w4.heap.size ≤ j := q; exact ⟨hP j (Nat.le_trans o4.size q'), by omega, by omega⟩
  have hxd : Tq (fun j => P j ∧ j ≠ R ∧ j ≠ w2.heap.size) w4.drew c n A := hx4.kept ((Only.refl w4 (fun _ => False)).drewN 1) (fun _ _ q => q)
  clear h3 h4 h5 h6 hx hPx o3 b2 oa o2
  have e0 := cell_of_row _ _ 0 _ _ _ HK.out
  have e1 := cell_of_row _ _ 1 _ _ _ HK.out
  have e0d : w4.drew.cell? ⟨w2.heap.size, 0, none⟩ = some (.int .i64 k.1) := e0
  have e1d : w4.drew.cell? ⟨w2.heap.size, 1, none⟩ = some (.int .i64 k.2) := e1
  go_upto_region 4 with (fail)
  go_region_with (first
    | (go_at_call 30; refine (all_any _ c n A hxd hPd).mono ?_; rintro e w5 ⟨r5, Y5, rfl, h7, h8, o5⟩; have f0 := o5.cell (x := ⟨w2.heap.size, 0, none⟩) hKc e0d; have f1 := o5.cell (x := ⟨w2.heap.size, 1, none⟩) hKc e1d)
    | (go_at_call 31; refine (drop_some (less_s r5) n (Mo A) Y5 k v _ h7.ob hk HA.out hn 0 (by decide) trivial (fun _ q => q.elim) (fun _ q => q.elim) n1 HN1.out).mono ?_; rintro e w6 ⟨rfl, Y', a, g1, g2, _, _, g5⟩))
  all_goals
    (rw [Mo_del] at g1
     obtain ⟨h9, h10⟩ := h7.turned h8 (fun j q => hPd j (Nat.le_trans o5.size q)) g1 g2 g5
     have od : Only w w4.drew P := o4.drewN 1
     have o6 : Only w w6 P := (od.tr (o5.mono (fun j q => by rw [q]; exact hPc))).tr (g5.mono (fun j q => q.elim (fun q => (h8 j q).1) (fun q => q.elim)))
     have HK6 := Lib.hid (g5.blk (fun q => q.elim (fun q => (h8 _ q).2.2 rfl) id) (o5.blk hKc (((Only.refl w4 (fun _ => False)).drewN 1).blk (fun q => q) HK.out)))
     have HR6 := Lib.hid (g5.blk (fun q => q.elim (fun q => (h8 _ q).2.1 rfl) id) (o5.blk hRc (((Only.refl w4 (fun _ => False)).drewN 1).blk (fun q => q) HBR4.out)))
     have y0 := cell_of_row _ _ 0 _ _ _ HK6.out
     have y1 := cell_of_row _ _ 1 _ _ _ HK6.out
     go_wp2_with (with_reducible refine wpList_store_key rfl (.tmp 4) (.tmp 29) rfl R k.1 k.2 rfl rfl 0 0 HR6 ?_; intro w7 HB7 hg7)
     have o7 : Only w6 w7 (fun j => j = R) := Only.grown hg7 (Or.inl rfl)
     have z0 := cell_of_row _ _ 0 _ _ _ HB7.out
     have z1 := cell_of_row _ _ 1 _ _ _ HB7.out
     have h11 := h9.kept o7 (fun q => hRc q.symm) (fun j q e => (h10 j q).2.1 e)
     exact bodyPost_ret (v := .tuple #[kv k, .bool true]) (by simp [results, Try.results14, go_sem, z0, z1]) rfl ⟨rfl, ⟨hPc, Or.inr ⟨r5, Y', h11, fun j q => (h10 j q).1⟩⟩, o6.trans o7 (fun j q => by rw [q]; exact Or.inr hRw)⟩)
end Go.Proofs.Ytkldoeillkfpbaa.W.HT
