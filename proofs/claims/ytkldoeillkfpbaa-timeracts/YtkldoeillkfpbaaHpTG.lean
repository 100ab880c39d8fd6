/- A heap in memory: Drop. -/
import Derived.Test.YtkldoeillkfpbaaHpTF
namespace Go.Proofs.Ytkldoeillkfpbaa.W.HT
open Go.RowKit

theorem mapZn (M : K → Option Nat) (k : K) : (fun k' => (updZ M k none k').map (fun j : Nat => Value.int .i64 (j : Int))) = updZ (fun k' => (M k').map (fun j : Nat => Value.int .i64 (j : Int))) k none := by
  funext k'; unfold updZ; split <;> rfl
theorem updZ_back (A : K → Option V) (k : K) (v : V) (h : A k = some v) : updZ (updZ A k none) k (some v) = A := by
  rw [updZ_twice]; funext j; unfold updZ; split
  · rename_i e; rw [e, h]
  · rfl

/-- A lookup in no map. -/
theorem run_nil {P : Program} {w : World} {k e t : TypeId} (hk : Kd P k) (ht : P.underlying t = some (.map k e)) {z : Value} (hz : (zeroValue e).run P w = .ok z w) {n : K} (hw : kw n) :
    (Instr.lookup t (.map none) (kv n) true).run P w = .ok (.tuple #[z, .bool false]) w := by
  simpa using Maps.look_nil (w := w) true (hk.keyed) ht hz (hk.made n hw)
set_option maxRecDepth 100000 in
set_option maxHeartbeats 800000 in
theorem drop_none {r : Nat} {Fv : Value} (n : Nat) (A : K → Option V) (X : Nat → Prop) (k : K) (w : World) (h : Ob w r Fv n A X) (hk : kw k) (hA : A k = none) :
    Calls Try.prog 31 #[.pointer (some ⟨r, 0, none⟩), kv k] w fun e w' => e = .returned (.bool false) ∧ Below w.heap.size w w' := by
  obtain ⟨G, B, sv, T, M, h, h1, h2, h3, h4⟩ := h
  have hM : M k = none := by
    cases q : M k with
    | none => rfl
    | some i => rw [(h.full.get q).2.1] at hA; cases hA
  have HM := Lib.hid hM
  clear hM hA
  rcases h.mp with ⟨hB, _⟩ | ⟨b, hB, hmp⟩
  · subst hB
    go_enter Try.func31, Try.ntmps31
    go_upto_region 1 with (fail)
    have hO0 : Only w (w.alloc (.cells #[.int .i64 k.1, .int .i64 k.2] 30)) (fun _ => False) := (Only.refl w _).alloc _
    have HBK : Hid ((w.alloc (.cells #[.int .i64 k.1, .int .i64 k.2] 30)).heap[w.heap.size]? = some (.cells #[.int .i64 k.1, .int .i64 k.2] 30)) := Lib.hid (heap_alloc_new w _)
    have hBL := hO0.blk (fun q => q) h.blk
    generalize w.alloc (.cells #[.int .i64 k.1, .int .i64 k.2] 30) = w0 at hO0 HBK hBL ⊢
    have c2 := cell_of_row _ _ 2 _ _ _ hBL
    have y0 := cell_of_row _ _ 0 _ _ _ HBK.out
    have y1 := cell_of_row _ _ 1 _ _ _ HBK.out
    have hrun : ∀ x, (Instr.lookup 102 (.map none) (.agg #[.int .i64 k.1, .int .i64 k.2]) true).run Try.prog (w0.drewN x) = .ok (.tuple #[.int .i64 0, .bool false]) (w0.drewN x) := fun x => run_nil kd Try.underlying102 (zeroI _) hk
    have hrun1 : (Instr.lookup 102 (.map none) (.agg #[.int .i64 k.1, .int .i64 k.2]) true).run Try.prog w0.drew = .ok (.tuple #[.int .i64 0, .bool false]) w0.drew := hrun 1
    go_quiet (fail)
    go_wp2_with fail
    go_ret
    exact ⟨rfl, (hO0.drewN nq).below (fun _ q => q.elim) (Nat.le_refl _)⟩
  · subst hB
    go_enter Try.func31, Try.ntmps31
    go_upto_region 1 with (fail)
    have hO0 : Only w (w.alloc (.cells #[.int .i64 k.1, .int .i64 k.2] 30)) (fun _ => False) := (Only.refl w _).alloc _
    have HBK : Hid ((w.alloc (.cells #[.int .i64 k.1, .int .i64 k.2] 30)).heap[w.heap.size]? = some (.cells #[.int .i64 k.1, .int .i64 k.2] 30)) := Lib.hid (heap_alloc_new w _)
    have hBL := hO0.blk (fun q => q) h.blk
    have hmp := hmp.kept hO0 (fun q => q)
    generalize w.alloc (.cells #[.int .i64 k.1, .int .i64 k.2] 30) = w0 at hO0 HBK hBL hmp ⊢
    have c2 := cell_of_row _ _ 2 _ _ _ hBL
    have y0 := cell_of_row _ _ 0 _ _ _ HBK.out
    have y1 := cell_of_row _ _ 1 _ _ _ HBK.out
    have hrun : ∀ x, (Instr.lookup 102 (.map (some b)) (.agg #[.int .i64 k.1, .int .i64 k.2]) true).run Try.prog (w0.drewN x) = .ok (.tuple #[.int .i64 0, .bool false]) (w0.drewN x) := fun x => by rw [(hmp.kept ((Only.refl w0 (fun _ => False)).drewN x) (fun q => q)).run_ok kd Try.underlying102 (zeroI _) hk]; simp [HM.out]
    have hrun1 : (Instr.lookup 102 (.map (some b)) (.agg #[.int .i64 k.1, .int .i64 k.2]) true).run Try.prog w0.drew = .ok (.tuple #[.int .i64 0, .bool false]) w0.drew := hrun 1
    go_quiet (fail)
    go_wp2_with fail
    go_ret
    exact ⟨rfl, (hO0.drewN nq).below (fun _ q => q.elim) (Nat.le_refl _)⟩

set_option maxRecDepth 100000 in
set_option maxHeartbeats 1600000 in
theorem drop_some {r : Nat} {Fv : Value} {S : Nat → Prop} {C : Nat → World → Prop} (L : Less r Fv S C) (n : Nat) (A : K → Option V) (X : Nat → Prop) (k : K) (v0 : V) (w : World) (h : Ob w r Fv n A X) (hk : kw k) (hA : A k = some v0) (hn : n < 1073741824)
    (m : Nat) (hm : m < 2305843009213693952) (hC : C m w) (hS : ∀ j, S j → ¬ X j) (hSw : ∀ j, S j → j < w.heap.size) (n1 : Nat) (hn1 : n = n1 + 1) :
    Calls Try.prog 31 #[.pointer (some ⟨r, 0, none⟩), kv k] w fun e w' => e = .returned (.bool true) ∧ ∃ (X' : Nat → Prop) (a : Nat), Ob w' r Fv n1 (updZ A k none) X' ∧ (∀ j, X' j → X j ∨ w.heap.size ≤ j) ∧ a ≤ 90 ∧ C (m + a) w' ∧ Only w w' (fun j => X j ∨ S j) := by
  obtain ⟨G, B, sv, T, M, h, h1, h2, h3, h4⟩ := h
  have hml : (1073741824 : Nat) < maxLen := by decide
  cases hM : M k with
  | none => rw [h.full.isnone hM] at hA; cases hA
  | some i =>
    obtain ⟨hin, _, hkey⟩ := h.full.get hM
    obtain ⟨g, cap, hG, rfl, hrow⟩ := h.its.some_ (by omega)
    obtain ⟨b, hB, hmp⟩ : ∃ b, B = some b ∧ Mp Try.prog 30 w b (fun k => (M k).map (fun j : Nat => Value.int .i64 (j : Int))) n := by
      rcases h.mp with ⟨_, _, q⟩ | q
      · rw [q k] at hM; cases hM
      · exact q
    subst hB hG
    have hrg := h.rg g rfl
    have hrb := h.rb b rfl
    have hgb := h.gb g b rfl rfl
    have HFU := Lib.hid h.full
    have hkeys := h.keys
    have hcap := hrow.cap_
    have hn1n : n1 < n := by omega
    have hsub : (n : Int) - 1 = (n1 : Int) := by omega
    have hni : (n : Int) < 1073741824 := by omega
    have hn0 : (0 : Int) < (n : Int) := by omega
    have hn1i : (n1 : Int) < (n : Int) := by omega
    have hn1c : (n1 : Int) ≤ (cap : Int) := by omega
    have hii : (i : Int) < (n : Int) := by omega
    have HN1 := Lib.hid hn1
    have HM := Lib.hid hM
    have hBLK := h.blk
    clear h hn1 hM hA
    go_enter Try.func31, Try.ntmps31
    go_upto_region 1 with (fail)
    have hO0 : Only w (w.alloc (.cells #[.int .i64 k.1, .int .i64 k.2] 30)) (fun _ => False) := (Only.refl w _).alloc _
    have HBK : Hid ((w.alloc (.cells #[.int .i64 k.1, .int .i64 k.2] 30)).heap[w.heap.size]? = some (.cells #[.int .i64 k.1, .int .i64 k.2] 30)) := Lib.hid (heap_alloc_new w _)
    generalize w.alloc (.cells #[.int .i64 k.1, .int .i64 k.2] 30) = w0 at hO0 HBK ⊢
    have hBL := hO0.blk (fun q => q) hBLK
    have hmp0 := hmp.kept hO0 (fun q => q)
    have c2 := cell_of_row _ _ 2 _ _ _ hBL
    have y0 := cell_of_row _ _ 0 _ _ _ HBK.out
    have y1 := cell_of_row _ _ 1 _ _ _ HBK.out
    have hrun : ∀ x, (Instr.lookup 102 (.map (some b)) (.agg #[.int .i64 k.1, .int .i64 k.2]) true).run Try.prog (w0.drewN x) = .ok (.tuple #[.int .i64 (i : Int), .bool true]) (w0.drewN x) := fun x => by rw [(hmp0.kept ((Only.refl w0 (fun _ => False)).drewN x) (fun q => q)).run_ok kd Try.underlying102 (zeroI _) hk]; simp [HM.out]
    have hrun1 : (Instr.lookup 102 (.map (some b)) (.agg #[.int .i64 k.1, .int .i64 k.2]) true).run Try.prog w0.drew = .ok (.tuple #[.int .i64 (i : Int), .bool true]) w0.drew := hrun 1
    go_quiet (fail)
    have hOd := hO0.drewN nq
    have hmpd := hmp0.kept ((Only.refl w0 (fun _ => False)).drewN nq) (fun q => q)
    have hBd := ((Only.refl w0 (fun _ => False)).drewN nq).blk (fun q => q) hBL
    have HBKd := Lib.hid (((Only.refl w0 (fun _ => False)).drewN nq).blk (fun q => q) HBK.out)
    clear hrun hrun1 c2 y0 y1
    generalize w0.drewN nq = wd at hOd hmpd hBd HBKd ⊢
    have c2 := cell_of_row _ _ 2 _ _ _ hBd
    have y0 := cell_of_row _ _ 0 _ _ _ HBKd.out
    have y1 := cell_of_row _ _ 1 _ _ _ HBKd.out
    go_upto_region 4 with (fail)
    go_still_tail 5, (by kernel_rfl)
    change wpList _ _ _ _ _ wd.drew
    have hOe : Only w wd.drew (fun _ => False) := hOd.drewN 1
    have hmpe := hmpd.kept ((Only.refl wd (fun _ => False)).drewN 1) (fun q => q)
    have HBLK := Lib.hid (hOe.blk (fun q => q) hBLK)
    clear c2 y0 y1
    change Mp _ _ wd.drew _ _ _ at hmpe
    generalize wd.drew = we at hOe hmpe HBLK ⊢
    refine wpList_mp_del rfl (.tmp 23) (.tmp 24) 102 30 rfl 3 kd Try.underlying102 b _ n rfl hmpe k rfl hk n1 (by simp [HM.out, HN1.out]) ?_
    intro w1 hmp1 hg1
    have hO1 : Only w w1 (fun j => j = b) := (hOe.mono (fun _ q => q.elim)).tr (Only.grown hg1 (Or.inl rfl))
    have hO1' : Only we w1 (fun j => j = b) := Only.grown hg1 (Or.inl rfl)
    have HB1 := Lib.hid (hO1'.blk hrb HBLK.out)
    have hrow1 := hrow.kept hO1 hgb
    obtain ⟨⟨ku, vu⟩, hTu⟩ : ∃ x, T n1 = x := ⟨_, rfl⟩
    have c1 := cell_of_row _ _ 1 _ _ _ HB1.out
    have x0 : w1.cell? ⟨g, n1 * 5, none⟩ = some (.int .i64 ku.1) := hrow1.cell (c := 0) hn1n (by rw [hTu]; rfl) rfl
    have xk : w1.cell? ⟨g, n1 * 5 + 1, none⟩ = some (.int .i64 ku.2) := hrow1.cell (c := 1) hn1n (by rw [hTu]; rfl) rfl
    have x1 : w1.cell? ⟨g, n1 * 5 + 2, none⟩ = some (.int .i64 vu.1) := hrow1.cell (c := 2) hn1n (by rw [hTu]; rfl) rfl
    have x2 : w1.cell? ⟨g, n1 * 5 + 3, none⟩ = some (.int .i64 vu.2.1) := hrow1.cell (c := 3) hn1n (by rw [hTu]; rfl) rfl
    have x3 : w1.cell? ⟨g, n1 * 5 + 4, none⟩ = some (.int .i64 vu.2.2) := hrow1.cell (c := 4) hn1n (by rw [hTu]; rfl) rfl
    have HTU := Lib.hid hTu
    clear hTu
    go_upto_region 7 with (fail)
    have hO2 : Only w1 (w1.alloc (.cells #[.int .i64 ku.1, .int .i64 ku.2, .int .i64 vu.1, .int .i64 vu.2.1, .int .i64 vu.2.2] 106)) (fun _ => False) := (Only.refl w1 _).alloc _
    have HBX := Lib.hid (heap_alloc_new w1 (.cells #[.int .i64 ku.1, .int .i64 ku.2, .int .i64 vu.1, .int .i64 vu.2.1, .int .i64 vu.2.2] 106))
    clear c1 x0 xk x1
    clear x2 x3
    generalize w1.alloc (.cells #[.int .i64 ku.1, .int .i64 ku.2, .int .i64 vu.1, .int .i64 vu.2.1, .int .i64 vu.2.2] 106) = w2 at hO2 HBX ⊢
    have HB2 := Lib.hid (hO2.blk (fun q => q) HB1.out)
    have hrow2 := hrow1.kept hO2 (fun q => q)
    have hmp2 := hmp1.kept hO2 (fun q => q)
    have c1 := cell_of_row _ _ 1 _ _ _ HB2.out
    go_upto_region 8 with (refine wpList_item_set enc rfl 106 (.tmp 44) (.tmp 43) rfl sizeIt g n cap n1 T rfl ((0, 0), (0, 0, 0)) rfl hrow2 hn1n ?_; intro w3 hrow3 hg3; clear c1)
    have hO3 : Only w2 w3 (fun j => j = g) := Only.grown hg3 (Or.inl rfl)
    have HB3 := Lib.hid (hO3.blk hrg HB2.out)
    have hmp3 := hmp2.kept hO3 (fun q => hgb q.symm)
    have c1 := cell_of_row _ _ 1 _ _ _ HB3.out
    go_upto_region 9 with (with_reducible refine wpList_store_one rfl 101 (.tmp 53) (.tmp 51) rfl sizeSl r 1 rfl (.slice (some ⟨g, 0, none⟩) n1 cap) rfl (cells_slice _ _ _) (one_slice _ _ _) [Fv, .slice (some ⟨g, 0, none⟩) n cap, .map (some b)] 104 HB3.out (len3_1 _ _ _) ?_; intro w4 HB4 hg4; clear c1)
    have hO4 : Only w3 w4 (fun j => j = r) := Only.grown hg4 (Or.inl rfl)
    have hrow4 : Row ic 5 106 w4 g n1 cap T := ((hrow3.kept hO4 (fun q => hrg q.symm)).less (by omega)).ext (fun j hj => by rw [upd_ne _ _ (by omega)])
    have hst : St w4 r Fv g cap b n1 T (updZ M k none) n1 := ⟨HB4.out, hrow4, by rw [mapZn]; exact hmp3.kept hO4 (fun q => hrb q.symm), hrg, hrb, hgb, fun j hj => hkeys j (by omega)⟩
    have hfull : Full lt ok (n1 + 1) T M A := by rw [← HN1.out]; exact HFU.out
    have hall : Only w w4 (fun j => j = b ∨ j = g ∨ j = r) := (((hO1.mono (fun _ q => Or.inl q)).tr (hO2.mono (fun _ q => q.elim))).tr (hO3.mono (fun _ q => Or.inr (Or.inl q)))).tr (hO4.mono (fun _ q => Or.inr (Or.inr q)))
    have hallX : Only w w4 (fun j => X j ∨ S j) := hall.mono (fun j q => by rcases q with q | q | q <;> rw [q]; exact Or.inl (h3 b rfl); exact Or.inl (h2 g rfl); exact Or.inl h1)
    have hC4 := L.keep w w4 m _ hC hall (fun j q e => by rcases e with e | e | e <;> rw [e] at q; exact hS b q (h3 b rfl); exact hS g q (h2 g rfl); exact hS r q h1)
    by_cases hlt : i < n1
    · have hdi : decide ((i : Int) < (n1 : Int)) = true := by simp; omega
      obtain ⟨hho, hpl⟩ := hfull.drop (T' := T) odr HM.out hlt (fun _ _ => rfl)
      rw [HTU.out] at hpl
      have hMu : M ku = some n1 := (hfull.at_ ku n1).2 ⟨by omega, by rw [HTU.out]⟩
      have hku : ku ≠ k := by
        intro e; rw [e, HM.out] at hMu; injection hMu; omega
      have hAu : A ku = some vu := (hfull.con _ _).2 ⟨n1, by omega, HTU.out⟩
      have hoku := hfull.okV n1 (by omega)
      have hkku := hkeys n1 (by omega)
      rw [HTU.out] at hoku hkku
      have hSd : ∀ j, S j → j ≠ r ∧ j ≠ g ∧ j ≠ b := fun j q => ⟨fun e => hS j q (by rw [e]; exact h1), fun e => hS j q (by rw [e]; exact h2 g rfl), fun e => hS j q (by rw [e]; exact h3 b rfl)⟩
      have hset := settle_any L g cap b n1 T _ n1 i ku _ vu w4 hst hho hpl hoku hkku (by omega) (by omega) m hm hC4 hSd (fun j q => Nat.lt_of_lt_of_le (hSw j q) hall.size) n1 (by rw [updZ_ne _ _ hku, hMu]; rfl)
      rw [updZ_back _ _ _ (by rw [updZ_ne _ _ hku]; exact hAu)] at hset
      have hB5 := (hO3.mono (S' := fun j => j = g ∨ j = r) (fun _ q => Or.inl q)).tr (hO4.mono (fun _ q => Or.inr q))
      have HBX4 := hB5.blk (fun q => by have a1 := lt_of_row HB1.out; have a2 := hrow1.lt; omega) HBX.out
      have z0 := cell_of_row _ _ 0 _ _ _ HBX4
      have z1 := cell_of_row _ _ 1 _ _ _ HBX4
      have z2 := cell_of_row _ _ 2 _ _ _ HBX4
      have z3 := cell_of_row _ _ 3 _ _ _ HBX4
      have z4 := cell_of_row _ _ 4 _ _ _ HBX4
      clear hMu hAu
      go_wp2_with fail
      refine hset.mono ?_
      rintro e w' ⟨rfl, T', M', a, hst', hful', ha, hC', hO'⟩
      clear hset z0 z1
      clear z2 z3
      clear z4
      go_wp2_with fail
      go_ret
      have hO6 : Only w w' (fun j => X j ∨ S j) := hallX.tr (hO'.mono (fun j q => by rcases q with q | q | q; exact Or.inl (by rw [q]; exact h2 g rfl); exact Or.inl (by rw [q]; exact h3 b rfl); exact Or.inr q))
      obtain ⟨X', hX1, hX2⟩ := settled_ob (w := w) hst' hful' h1 h4 hO6.size (Or.inl (h2 g rfl)) (Or.inl (h3 b rfl))
      exact ⟨rfl, X', a, hX1, hX2, ha, hC', hO6⟩
    · have hdi : decide ((i : Int) < (n1 : Int)) = false := by simp; omega
      have hin1 : i = n1 := by have := HN1.out; omega
      have hMn : M k = some n1 := by rw [HM.out, hin1]
      have hful' := hfull.last (T' := T) hMn (fun _ _ => rfl)
      clear hMn
      have HIN := Lib.hid hin1
      clear hin1
      go_wp2_with fail
      go_ret
      obtain ⟨X', hX1, hX2⟩ := settled_ob (w := w) hst hful' h1 h4 hallX.size (Or.inl (h2 g rfl)) (Or.inl (h3 b rfl))
      exact ⟨rfl, X', 0, hX1, hX2, by omega, hC4, hallX⟩
end Go.Proofs.Ytkldoeillkfpbaa.W.HT
