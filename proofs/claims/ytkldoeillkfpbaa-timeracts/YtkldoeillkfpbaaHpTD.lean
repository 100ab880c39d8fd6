/- A heap in memory: the free place goes down; an item is settled. -/
import Derived.Test.YtkldoeillkfpbaaHpTC
namespace Go.Proofs.Ytkldoeillkfpbaa.W.HT
open Go.RowKit

set_option maxRecDepth 100000 in
set_option maxHeartbeats 1600000 in
theorem sink_any {r : Nat} {Fv : Value} {S : Nat → Prop} {C : Nat → World → Prop} (L : Less r Fv S C) (g cap b n : Nat) (T : Nat → K × V) (M : K → Option Nat) (c : Nat) (i : Nat) (k0 : K) (A : K → Option V) (v : V) (w : World)
    (h : St w r Fv g cap b n T M c) (ho : Hole lt ok n T i) (hp : Pl n T i k0 M A) (hup : 0 < i → lt v (T (par i)).2 = false) (hv : ok v) (hn : n < 1073741824) (hc : c < maxLen) (m : Nat) (hm : m < 2305843009213694000) (hC : C m w) (hS : ∀ j, S j → j ≠ r ∧ j ≠ g ∧ j ≠ b) (hSw : ∀ j, S j → j < w.heap.size) :
    Calls Try.prog 53 #[.pointer (some ⟨r, 0, none⟩), .int .i64 (i : Int), (.agg #[.int .i64 v.1, .int .i64 v.2.1, .int .i64 v.2.2])] w fun e w' => ∃ (T' : Nat → K × V) (M' : K → Option Nat) (i' a : Nat), e = .returned (.int .i64 (i' : Int)) ∧ St w' r Fv g cap b n T' M' c ∧ Hole lt ok n T' i' ∧ Pl n T' i' k0 M' A ∧ M' k0 = M k0 ∧
      (0 < i' → lt v (T' (par i')).2 = false) ∧ (∀ j, 0 < j → j < n → par j = i' → lt (T' j).2 v = false) ∧ a ≤ 60 ∧ C (m + a) w' ∧ Only w w' (dom g b S) := by
  have hSr : ¬ S r := fun q => (hS r q).1 rfl
  have hSg : ¬ S g := fun q => (hS g q).2.1 rfl
  have hSb : ¬ S b := fun q => (hS b q).2.2 rfl
  have hin := ho.lt_n
  have hnH : ¬ dom g b S w.heap.size := by
    have hg1 := h.row.lt
    have hb1 := h.mp.lt
    rintro (q | q | q)
    · omega
    · omega
    · have := hSw _ q; omega
  go_enter Try.func53, Try.ntmps53
  go_wp2
  go_loopg [1] (n - i) (fun gk vi wr => ∃ (T' : Nat → K × V) (M' : K → Option Nat) (i' t a : Nat), vi = .int .i64 (i' : Int) ∧ i' + gk = n ∧ St wr r Fv g cap b n T' M' c ∧ Hole lt ok n T' i' ∧ Pl n T' i' k0 M' A ∧ Hid (M' k0 = M k0) ∧ Hid (0 < i' → lt v (T' (par i')).2 = false) ∧ C (m + a) wr ∧ a ≤ 2 * t ∧ Hid (2 ^ t ≤ i' + 1) ∧ Only w wr (dom g b S) ∧ Hid (wr.heap[w.heap.size]? = some (.cells #[.int .i64 v.1, .int .i64 v.2.1, .int .i64 v.2.2] 77)))
  case atStart => exact ⟨T, M, i, 0, 0, rfl, by omega, h.kept (Only.alloc (Only.refl w (fun _ => False)) _) (fun q => q) (fun q => q) (fun q => q), ho, hp, Lib.hid rfl, Lib.hid hup, L.keep w _ m (fun _ => False) hC (Only.alloc (Only.refl w (fun _ => False)) _) (fun _ _ q => q), by omega, Lib.hid (by omega), (Only.refl w _).alloc _, Lib.hid (heap_alloc_new w _)⟩
  case round =>
    obtain ⟨T', M', i', t, a, rfl, hgk, h', ho', hp', HM, HUP, hC', ha, HT, hO, HB⟩ := hrel
    have hgn := ho'.lt_n
    have HGK := Lib.hid hgk
    clear hgk
    have ht30 : t < 30 := pow_le30 HT.out (by omega)
    have hii : (i' : Int) < 1073741824 := by omega
    have c1 := h'.c1
    by_cases hlt0 : 2 * i' + 1 < n
    · have hdi : decide (2 * (i' : Int) + 1 < (n : Int)) = true := by simp; omega
      have ht31 : t + 1 < 30 := pow_le30 (m := n) (by rw [Nat.pow_succ]; have := HT.out; omega) (by omega)
      have hchild := child_any L g cap b n T' M' c i' wr h' ho' hlt0 hn (m + a) (by omega) hC'
      go_wp2_with fail
      refine hchild.mono ?_
      rintro e w0 ⟨ch, a1, rfl, hch0, hchn, hpar, hmin, ha1, hC0, ho0⟩
      clear hchild c1
      have h0 := h'.kept ho0 hSr hSg hSb
      have hO0 := hO.trans ho0 (fun j q => Or.inl (Or.inr (Or.inr q)))
      have hci : ch ≠ i' := by have := par_lt hch0; omega
      have hokc := ho'.okV ch hchn hci
      obtain ⟨⟨ku, vu⟩, hTu⟩ : ∃ x, T' ch = x := ⟨_, rfl⟩
      rw [hTu] at hokc hmin
      have hchi : (ch : Int) < (n : Int) := by omega
      have hkey := h0.keys ch hchn
      rw [hTu] at hkey
      have c1 := h0.c1
      have x1 : w0.cell? ⟨g, ch * 5 + 2, none⟩ = some (.int .i64 vu.1) := h0.row.cell (c := 2) hchn (by rw [hTu]; rfl) rfl
      have x2 : w0.cell? ⟨g, ch * 5 + 3, none⟩ = some (.int .i64 vu.2.1) := h0.row.cell (c := 3) hchn (by rw [hTu]; rfl) rfl
      have x3 : w0.cell? ⟨g, ch * 5 + 4, none⟩ = some (.int .i64 vu.2.2) := h0.row.cell (c := 4) hchn (by rw [hTu]; rfl) rfl
      have hcall := L.call w0.drew (m + a + a1) vu v h0.c0 (L.keep w0 w0.drew (m + a + a1) (fun _ => False) hC0 ((Only.refl w0 _).drewN 1) (fun _ _ q => q)) (by omega) hokc hv
      have HB0 := ho0.blk (fun q => hnH (Or.inr (Or.inr q))) HB.out
      have z0 := cell_of_row _ _ 0 _ _ _ HB0
      have z1 := cell_of_row _ _ 1 _ _ _ HB0
      have z2 := cell_of_row _ _ 2 _ _ _ HB0
      have HTU := Lib.hid hTu
      have HPAR := Lib.hid hpar
      clear hTu hpar
      cases hlt : lt vu v with
      | false =>
        rw [hlt] at hcall
        have HLT := Lib.hid hlt
        clear hlt
        go_wp2_with fail
        go_still_tail 10, (by kernel_rfl)
        change wpList _ _ _ _ _ w0.drew
        have hwd : Only w0 w0.drew S := (Only.refl w0 _).drewN 1
        clear z0 z1 z2
        generalize w0.drew = wd at hcall hwd ⊢
        go_wp2_with fail
        refine hcall.mono ?_
        rintro e w1 ⟨rfl, hC1, ho1⟩
        have ho1 := hwd.tr ho1
        have HB1 := ho1.blk (fun q => hnH (Or.inr (Or.inr q))) HB0
        clear hcall c1 x1
        clear x2 x3
        have h1 := h0.kept ho1 hSr hSg hSb
        have hC2 : C (m + (a + a1 + 1)) w1 := by rw [← Nat.add_assoc, ← Nat.add_assoc]; exact hC1
        go_wp2_with fail
        go_ret
        refine ⟨T', M', i', a + a1 + 1, rfl, h1, ho', hp', HM.out, HUP.out, ?_, by omega, hC2, hO0.trans ho1 (fun j q => Or.inl (Or.inr (Or.inr q)))⟩
        intro j hj0 hjn hjp
        exact odr.ntr _ _ _ (ho'.okV j hjn (by have := par_lt hj0; omega)) hokc hv (hmin j hj0 hjn hjp) HLT.out
      | true =>
        rw [hlt] at hcall
        have HLT := Lib.hid hlt
        clear hlt
        go_wp2_with fail
        go_still_tail 10, (by kernel_rfl)
        change wpList _ _ _ _ _ w0.drew
        have hwd : Only w0 w0.drew S := (Only.refl w0 _).drewN 1
        clear z0 z1 z2
        generalize w0.drew = wd at hcall hwd ⊢
        go_wp2_with fail
        refine hcall.mono ?_
        rintro e w1 ⟨rfl, hC1, ho1⟩
        have ho1 := hwd.tr ho1
        have HB1 := ho1.blk (fun q => hnH (Or.inr (Or.inr q))) HB0
        clear hcall c1 x1
        clear x2 x3
        have h1 := h0.kept ho1 hSr hSg hSb
        have hO1 := hO0.trans ho1 (fun j q => Or.inl (Or.inr (Or.inr q)))
        have c1 := h1.c1
        have x0 : w1.cell? ⟨g, ch * 5, none⟩ = some (.int .i64 ku.1) := h1.row.cell (c := 0) hchn (by rw [HTU.out]; rfl) rfl
        have xk : w1.cell? ⟨g, ch * 5 + 1, none⟩ = some (.int .i64 ku.2) := h1.row.cell (c := 1) hchn (by rw [HTU.out]; rfl) rfl
        have x1 : w1.cell? ⟨g, ch * 5 + 2, none⟩ = some (.int .i64 vu.1) := h1.row.cell (c := 2) hchn (by rw [HTU.out]; rfl) rfl
        have x2 : w1.cell? ⟨g, ch * 5 + 3, none⟩ = some (.int .i64 vu.2.1) := h1.row.cell (c := 3) hchn (by rw [HTU.out]; rfl) rfl
        have x3 : w1.cell? ⟨g, ch * 5 + 4, none⟩ = some (.int .i64 vu.2.2) := h1.row.cell (c := 4) hchn (by rw [HTU.out]; rfl) rfl
        have hku : ku ≠ k0 := by have := hp'.nk ch hchn hci; rw [HTU.out] at this; exact this
        have hMk : M' ku = some ch := (hp'.at_ ku hku ch).2 ⟨hchn, hci, by rw [HTU.out]⟩
        have hput := put_any r Fv g cap b n T' M' c i' ku vu w1 h1 hgn hkey hc c (by rw [hMk]; rfl)
        have HMK := Lib.hid hMk
        clear hMk
        go_wp2_with fail
        refine hput.mono ?_
        rintro e w2 ⟨rfl, h2, ho2⟩
        clear hput c1 x0 xk x1
        clear x2 x3
        have hC2 := L.keep w1 w2 _ _ hC1 ho2 (fun j q q' => by rcases q' with q' | q'; exact (hS j q).2.1 q'; exact (hS j q).2.2 q')
        have hC3 : C (m + (a + a1 + 1)) w2 := by rw [← Nat.add_assoc, ← Nat.add_assoc]; exact hC2
        have HB2 := ho2.blk (fun q => hnH (q.elim Or.inl (fun q => Or.inr (Or.inl q)))) HB1
        have hO2 := hO1.trans ho2 (fun j q => Or.inl (q.elim (fun q => Or.inl q) (fun q => Or.inr (Or.inl q))))
        have hH2 := ho'.down hch0 hchn HPAR.out (by rw [HTU.out]; exact hmin)
        have hP2 := hp'.move hgn hchn hci
        rw [HTU.out] at hH2 hP2
        have hcase := par_cases hch0 HPAR.out
        go_wp2_with fail
        go_roundg (n - ch)
        case measure => have := HGK.out; omega
        case rel =>
          refine ⟨_, _, ch, t + 1, a + a1 + 1, by go_num, by omega, h2, hH2, hP2, Lib.hid ?_, Lib.hid ?_, hC3, by omega, Lib.hid ?_, hO2, Lib.hid HB2⟩
          · rw [updZ_ne _ _ (fun q => hku q.symm)]; exact HM.out
          · intro _
            rw [HPAR.out, upd_same]; exact odr.asym _ _ hokc hv HLT.out
          · have := HT.out; rw [Nat.pow_succ]; omega
    · have hdi : decide (2 * (i' : Int) + 1 < (n : Int)) = false := by simp; omega
      go_wp2_with fail
      go_ret
      refine ⟨T', M', i', a, rfl, h', ho', hp', HM.out, HUP.out, ?_, by omega, hC', hO⟩
      intro j hj0 hjn hjp
      rcases par_cases hj0 hjp with q | q <;> omega

set_option maxRecDepth 100000 in
set_option maxHeartbeats 1600000 in
theorem settle_any {r : Nat} {Fv : Value} {S : Nat → Prop} {C : Nat → World → Prop} (L : Less r Fv S C) (g cap b n : Nat) (T : Nat → K × V) (M : K → Option Nat) (c : Nat) (i : Nat) (k : K) (A : K → Option V) (v : V) (w : World)
    (h : St w r Fv g cap b n T M c) (ho : Hole lt ok n T i) (hp : Pl n T i k M A) (hv : ok v) (hk : kw k) (hn : n < 1073741824) (hc : c < maxLen) (m : Nat) (hm : m < 2305843009213693952) (hC : C m w) (hS : ∀ j, S j → j ≠ r ∧ j ≠ g ∧ j ≠ b) (hSw : ∀ j, S j → j < w.heap.size)
    (c' : Nat) (hc' : c' = if (M k).isSome then c else c + 1) :
    Calls Try.prog 46 #[.pointer (some ⟨r, 0, none⟩), .int .i64 (i : Int), .agg #[.int .i64 k.1, .int .i64 k.2, .int .i64 v.1, .int .i64 v.2.1, .int .i64 v.2.2]] w fun e w' => e = .returned (.tuple #[]) ∧ ∃ (T' : Nat → K × V) (M' : K → Option Nat) (a : Nat), St w' r Fv g cap b n T' M' c' ∧ Full lt ok n T' M' (updZ A k (some v)) ∧ a ≤ 90 ∧ C (m + a) w' ∧ Only w w' (dom g b S) := by
  have HC := Lib.hid hc'
  clear hc'
  have hr1 := lt_of_row h.blk
  have hg1 := h.row.lt
  have hb1 := h.mp.lt
  have hOw : Only w (w.alloc (.cells #[.int .i64 k.1, .int .i64 k.2, .int .i64 v.1, .int .i64 v.2.1, .int .i64 v.2.2] 106)) (dom g b S) := (Only.refl w _).alloc _
  have h1 := h.kept (Only.alloc (Only.refl w (fun _ => False)) (.cells #[.int .i64 k.1, .int .i64 k.2, .int .i64 v.1, .int .i64 v.2.1, .int .i64 v.2.2] 106)) (fun q => q) (fun q => q) (fun q => q)
  have hC1 := L.keep w _ m (fun _ => False) hC (Only.alloc (Only.refl w (fun _ => False)) (.cells #[.int .i64 k.1, .int .i64 k.2, .int .i64 v.1, .int .i64 v.2.1, .int .i64 v.2.2] 106)) (fun _ _ q => q)
  have hH : (w.alloc (.cells #[.int .i64 k.1, .int .i64 k.2, .int .i64 v.1, .int .i64 v.2.1, .int .i64 v.2.2] 106)).heap[w.heap.size]? = some (.cells #[.int .i64 k.1, .int .i64 k.2, .int .i64 v.1, .int .i64 v.2.1, .int .i64 v.2.2] 106) := heap_alloc_new w _
  have hnH : ¬ dom g b S w.heap.size := by
    rintro (q | q | q)
    · omega
    · omega
    · have := hSw _ q; omega
  go_enter Try.func46, Try.ntmps46
  have hSw1 : ∀ j, S j → j < (w.alloc (.cells #[.int .i64 k.1, .int .i64 k.2, .int .i64 v.1, .int .i64 v.2.1, .int .i64 v.2.2] 106)).heap.size := fun j q => Nat.lt_of_lt_of_le (hSw j q) hOw.size
  have hrise := rise_any L g cap b n T M c i k A v _ h1 ho hp hv hn hc m hm hC1 hS hSw1
  go_wp2_with fail
  refine hrise.mono ?_
  rintro e w2 ⟨T2, M2, i2, a2, rfl, h2, ho2, hp2, hM2, hup2, ha2, hC2, hO2⟩
  have hH2 := hO2.blk hnH hH
  have hOw2 := hOw.tr hO2
  have HM2 := Lib.hid hM2
  clear hrise hM2
  have e1 := cell_of_row _ _ 1 _ _ _ hH2
  have e2 := cell_of_row _ _ 2 _ _ _ hH2
  have e3 := cell_of_row _ _ 3 _ _ _ hH2
  have e4 := cell_of_row _ _ 4 _ _ _ hH2
  have hsink := sink_any L g cap b n T2 M2 c i2 k A v w2 h2 ho2 hp2 hup2 hv hn hc (m + a2) (by omega) hC2 hS (fun j q => Nat.lt_of_lt_of_le (hSw j q) hOw2.size)
  go_wp2_with fail
  refine hsink.mono ?_
  rintro e w3 ⟨T3, M3, i3, a3, rfl, h3, ho3, hp3, hM3, hup3, hdn3, ha3, hC3, hO3⟩
  have hH3 := hO3.blk hnH hH2
  have hOw3 := hOw2.tr hO3
  have HM3 := Lib.hid hM3
  clear hsink e1 hM3
  clear e2 e3
  clear e4
  have e0 := cell_of_row _ _ 0 _ _ _ hH3
  have e1 := cell_of_row _ _ 1 _ _ _ hH3
  have e2 := cell_of_row _ _ 2 _ _ _ hH3
  have e3 := cell_of_row _ _ 3 _ _ _ hH3
  have e4 := cell_of_row _ _ 4 _ _ _ hH3
  have hput := put_any r Fv g cap b n T3 M3 c i3 k v w3 h3 ho3.lt_n hk hc c' (by rw [HC.out, HM3.out, HM2.out])
  go_wp2_with fail
  refine hput.mono ?_
  rintro e w4 ⟨rfl, h4, ho4⟩
  clear hput e0 e1
  clear e2 e3
  clear e4
  go_wp2_with fail
  go_end0
  refine ⟨rfl, _, _, a2 + a3, h4, ho3.fill hp3 hv hup3 hdn3, by omega, ?_, hOw3.trans ho4 (fun j q => Or.inl (q.elim (fun q => Or.inl q) (fun q => Or.inr (Or.inl q))))⟩
  rw [← Nat.add_assoc]
  exact L.keep w3 w4 _ _ hC3 ho4 (fun j q q' => by rcases q' with q' | q'; exact (hS j q).2.1 q'; exact (hS j q).2.2 q')
end Go.Proofs.Ytkldoeillkfpbaa.W.HT
