/- A heap of ranks in memory: the order, Get, Min. -/
import Derived.Test.YtpagleilaaljoaaHpRG
import Derived.Test.YtpagleilaaljoaaRatioB
import Derived.BigRegion
namespace Go.Proofs.Ytpagleilaaljoaa.W.HR
open Go.RowKit
open Go.Proofs.Ytpagleilaaljoaa.R (compare_any cmpI cmp_lt cmp_gt cmp_eq U64 Rat)

theorem lt_yes {p q p' q' : Nat} {d d' : Int} (h : (p : Int) * (q' : Int) < (p' : Int) * (q : Int)) : lt (p, q, d) (p', q', d') = true := by
  have h1 : p * q' < p' * q := by rw [← Int.natCast_mul, ← Int.natCast_mul] at h; exact Int.ofNat_lt.1 h
  exact decide_eq_true (Or.inl h1)
theorem lt_no {p q p' q' : Nat} {d d' : Int} (h : (p' : Int) * (q : Int) < (p : Int) * (q' : Int)) : lt (p, q, d) (p', q', d') = false := by
  have h1 : p' * q < p * q' := by rw [← Int.natCast_mul, ← Int.natCast_mul] at h; exact Int.ofNat_lt.1 h
  refine decide_eq_false ?_
  show ¬ (p * q' < p' * q ∨ (p * q' = p' * q ∧ d < d'))
  omega
theorem lt_eq {p q p' q' : Nat} {d d' : Int} (h : (p : Int) * (q' : Int) = (p' : Int) * (q : Int)) : lt (p, q, d) (p', q', d') = decide (d < d') := by
  have h1 : p * q' = p' * q := by rw [← Int.natCast_mul, ← Int.natCast_mul] at h; exact Int.ofNat_inj.1 h
  show decide (p * q' < p' * q ∨ (p * q' = p' * q ∧ d < d')) = decide (d < d')
  by_cases e : d < d'
  · rw [decide_eq_true e]; exact decide_eq_true (Or.inr ⟨h1, e⟩)
  · rw [decide_eq_false e]; refine decide_eq_false ?_; omega
theorem u64n {n : Nat} (h : n < 18446744073709551616) : U64 (n : Int) := ⟨by omega, by omega⟩

set_option maxRecDepth 100000 in
set_option maxHeartbeats 800000 in
theorem lower_any (p q p' q' : Nat) (d d' : Int) (h : ok (p, q, d)) (h' : ok (p', q', d')) (w : World) :
    Calls Try.prog 45 #[.agg #[.int .u64 (p : Int), .int .u64 (q : Int), .int .i64 d], .agg #[.int .u64 (p' : Int), .int .u64 (q' : Int), .int .i64 d']] w fun e w' => e = .returned (.bool (lt (p, q, d) (p', q', d'))) ∧ Below w.heap.size w w' := by
  obtain ⟨h1, _, h2, _⟩ := h
  obtain ⟨h1', _, h2', _⟩ := h'
  have hcmp := fun w => compare_any (p : Int) (q : Int) (p' : Int) (q' : Int) (u64n h1) (u64n h2) (u64n h1') (u64n h2') w
  rcases Int.lt_trichotomy ((p : Int) * (q' : Int)) ((p' : Int) * (q : Int)) with c | c | c
  · rw [lt_yes c]
    rw [cmp_lt c] at hcmp
    clear c
    go_enter Try.func45, Try.ntmps45
    go_wp2_with fail
    refine (hcmp _).mono ?_
    rintro e w' ⟨rfl, y1, y2, rfl⟩
    go_wp2_with fail
    go_ret
    exact ⟨rfl, ((((Below.refl _ _).alloc (Nat.le_refl _) _).alloc (by simp <;> omega) _).alloc (by simp <;> omega) _).alloc (by simp <;> omega) _⟩
  · rw [lt_eq c]
    rw [c, cmp_eq] at hcmp
    clear c
    go_enter Try.func45, Try.ntmps45
    go_wp2_with fail
    refine (hcmp _).mono ?_
    rintro e w' ⟨rfl, y1, y2, rfl⟩
    go_wp2_with fail
    go_ret
    exact ⟨rfl, ((((Below.refl _ _).alloc (Nat.le_refl _) _).alloc (by simp <;> omega) _).alloc (by simp <;> omega) _).alloc (by simp <;> omega) _⟩
  · rw [lt_no c]
    rw [cmp_gt c] at hcmp
    clear c
    go_enter Try.func45, Try.ntmps45
    go_wp2_with fail
    refine (hcmp _).mono ?_
    rintro e w' ⟨rfl, y1, y2, rfl⟩
    go_wp2_with fail
    go_ret
    exact ⟨rfl, ((((Below.refl _ _).alloc (Nat.le_refl _) _).alloc (by simp <;> omega) _).alloc (by simp <;> omega) _).alloc (by simp <;> omega) _⟩

set_option maxRecDepth 100000 in
set_option maxHeartbeats 800000 in
theorem less45 (r : Nat) : Less r (.func (.func 45) #[] #[]) (fun _ => False) (fun _ _ => True) := by
  refine ⟨fun w m x y hc _ _ hx hy => ?_, fun _ _ _ _ _ _ _ => trivial⟩
  obtain ⟨p, q, d⟩ := x
  obtain ⟨p', q', d'⟩ := y
  have hfn := fun w => run_neq_func_nil (P := Try.prog) Try.underlying85 w (.func 45) #[] #[]
  have hcall := fun w => lower_any p q p' q' d d' hx hy w
  obtain ⟨bb, hbb⟩ : ∃ bb, lt (p, q, d) (p', q', d') = bb := ⟨_, rfl⟩
  rw [hbb] at hcall ⊢
  clear hbb
  go_enter Try.func57, Try.ntmps57
  go_upto_region 1 with (fail)
  have hb0 : Below w.heap.size w ((w.alloc (.cells #[.int .u64 (p : Int), .int .u64 (q : Int), .int .i64 d] 76)).alloc (.cells #[.int .u64 (p' : Int), .int .u64 (q' : Int), .int .i64 d'] 76)) := ((Below.refl w.heap.size w).alloc (Nat.le_refl _) _).alloc (by simp <;> omega) _
  have hc0 := (Only.of_below (S := fun _ => False) hb0).cell (x := ⟨r, 0, none⟩) (fun q => q) hc
  have ho1 : ((w.alloc (.cells #[.int .u64 (p : Int), .int .u64 (q : Int), .int .i64 d] 76)).alloc (.cells #[.int .u64 (p' : Int), .int .u64 (q' : Int), .int .i64 d'] 76)).heap[w.heap.size]? = some (.cells #[.int .u64 (p : Int), .int .u64 (q : Int), .int .i64 d] 76) := (Only.alloc (Only.refl _ (fun _ => False)) _).blk (fun q => q) (heap_alloc_new w _)
  have ho2 : ((w.alloc (.cells #[.int .u64 (p : Int), .int .u64 (q : Int), .int .i64 d] 76)).alloc (.cells #[.int .u64 (p' : Int), .int .u64 (q' : Int), .int .i64 d'] 76)).heap[w.heap.size + 1]? = some (.cells #[.int .u64 (p' : Int), .int .u64 (q' : Int), .int .i64 d'] 76) := by
    have := heap_alloc_new (w.alloc (.cells #[.int .u64 (p : Int), .int .u64 (q : Int), .int .i64 d] 76)) (.cells #[.int .u64 (p' : Int), .int .u64 (q' : Int), .int .i64 d'] 76)
    rwa [World.size_alloc] at this
  generalize ((w.alloc (.cells #[.int .u64 (p : Int), .int .u64 (q : Int), .int .i64 d] 76)).alloc (.cells #[.int .u64 (p' : Int), .int .u64 (q' : Int), .int .i64 d'] 76)) = w1 at hb0 hc0 ho1 ho2 ⊢
  have y0 := cell_of_row _ _ 0 _ _ _ ho1
  have y1 := cell_of_row _ _ 1 _ _ _ ho1
  have y2 := cell_of_row _ _ 2 _ _ _ ho1
  have z0 := cell_of_row _ _ 0 _ _ _ ho2
  have z1 := cell_of_row _ _ 1 _ _ _ ho2
  have z2 := cell_of_row _ _ 2 _ _ _ ho2
  clear hc
  go_still_tail 12, (by kernel_rfl)
  change wpList _ _ _ _ _ w1.drew
  have hb1 : Below w.heap.size w w1.drew := below_drewN hb0 1
  clear y0 y1 y2 z0 z1 z2 hc0 hb0
  generalize w1.drew = w2 at hb1 ⊢
  go_wp2_with fail
  refine (hcall _).mono ?_
  rintro e w' ⟨rfl, hb⟩
  go_wp2_with fail
  go_ret
  exact ⟨rfl, trivial, Only.of_below (hb1.trans (hb.mono hb1.size))⟩

abbrev F45 : Value := .func (.func 45) #[] #[]

set_option maxRecDepth 100000 in
set_option maxHeartbeats 800000 in
theorem get_some (r : Nat) (Fv : Value) (n : Nat) (A : Int → Option V) (X : Nat → Prop) (w : World) (h : Ob w r Fv n A X) (k : Int) (hk : (KL k).wf = true) (p q : Nat) (d : Int) (hv : A k = some (p, q, d)) (hn : n < 1073741824) :
    Calls Try.prog 40 #[.pointer (some ⟨r, 0, none⟩), .int .i64 k] w fun e w' => e = .returned (.tuple #[.agg #[.int .u64 (p : Int), .int .u64 (q : Int), .int .i64 d], .bool true]) ∧ Below w.heap.size w w' := by
  obtain ⟨G, B, sv, T, M, h, h1, h2, h3, h4⟩ := h
  cases hM : M k with
  | none => rw [h.full.isnone hM] at hv; cases hv
  | some i =>
    obtain ⟨hin, hA, hkey⟩ := h.full.get hM
    rw [hv] at hA
    injection hA with hA
    obtain ⟨g, cap, hG, rfl, hrow⟩ := h.its.some_ (by omega)
    obtain ⟨b, hB, hmp⟩ : ∃ b, B = some b ∧ Mp Try.prog 3 w b (fun k => (M k).map (fun j : Nat => Value.int .i64 (j : Int))) n := by
      rcases h.mp with ⟨_, _, q⟩ | q
      · rw [q k] at hM; cases hM
      · exact q
    subst hB
    have c1 := cell_of_row _ _ 1 _ _ _ h.blk
    have c2 := cell_of_row _ _ 2 _ _ _ h.blk
    have x1 : w.cell? ⟨g, i * 4 + 1, none⟩ = some (.int .u64 (p : Int)) := hrow.cell (c := 1) hin (by simp [← hA]) rfl
    have x2 : w.cell? ⟨g, i * 4 + 2, none⟩ = some (.int .u64 (q : Int)) := hrow.cell (c := 2) hin (by simp [← hA]) rfl
    have x3 : w.cell? ⟨g, i * 4 + 3, none⟩ = some (.int .i64 d) := hrow.cell (c := 3) hin (by simp [← hA]) rfl
    have hini : (i : Int) < (n : Int) := by omega
    have hglt := hrow.lt
    have hrlt := lt_of_row h.blk
    have HM := Lib.hid hM
    clear hM hv hA
    go_enter Try.func40, Try.ntmps40
    go_wp2_with (at_lookup; refine wpList_mp_some rfl (.tmp 13) (.tmp 14) 27 rfl 3 3 Try.underlying3 Try.underlying27 (zeroI _) b _ n rfl (hmp.kept (S := fun _ => False) ((Only.refl _ _).alloc _) (fun q => q)) k rfl hk (.int .i64 (i : Int)) (by simp [HM.out]) ?_)
    exact bodyPost_ret (v := .tuple #[.agg #[.int .u64 (p : Int), .int .u64 (q : Int), .int .i64 d], .bool true]) (by simp [results, Try.results40, go_sem]) rfl ⟨rfl, (Below.refl _ _).alloc (Nat.le_refl _) _⟩

set_option maxRecDepth 100000 in
set_option maxHeartbeats 800000 in
theorem get_none (r : Nat) (Fv : Value) (n : Nat) (A : Int → Option V) (X : Nat → Prop) (w : World) (h : Ob w r Fv n A X) (k : Int) (hk : (KL k).wf = true) (hv : A k = none) :
    Calls Try.prog 40 #[.pointer (some ⟨r, 0, none⟩), .int .i64 k] w fun e w' => e = .returned (.tuple #[.agg #[.int .u64 0, .int .u64 0, .int .i64 0], .bool false]) ∧ Below w.heap.size w w' := by
  obtain ⟨G, B, sv, T, M, h, h1, h2, h3, h4⟩ := h
  have c2 := cell_of_row _ _ 2 _ _ _ h.blk
  have hrlt := lt_of_row h.blk
  have hM : M k = none := by
    cases q : M k with
    | none => rfl
    | some i => rw [(h.full.get q).2.1] at hv; cases hv
  have HM := Lib.hid hM
  clear hM hv
  rcases h.mp with ⟨hB, _⟩ | ⟨b, hB, hmp⟩
  · subst hB
    go_enter Try.func40, Try.ntmps40
    go_wp2_with (at_lookup; refine wpList_nilmap_ok rfl (.tmp 13) (.tmp 14) 27 rfl 3 3 Try.underlying3 Try.underlying27 (zeroI _) rfl k rfl hk ?_)
    exact bodyPost_ret (v := .tuple #[.agg #[.int .u64 0, .int .u64 0, .int .i64 0], .bool false]) (by simp [results, Try.results40, go_sem]) rfl ⟨rfl, ((Below.refl _ _).alloc (Nat.le_refl _) _).alloc (by simp <;> omega) _⟩
  · subst hB
    go_enter Try.func40, Try.ntmps40
    go_wp2_with (at_lookup; refine wpList_mp_none rfl (.tmp 13) (.tmp 14) 27 rfl 3 3 Try.underlying3 Try.underlying27 (zeroI _) b _ n rfl (hmp.kept (S := fun _ => False) ((Only.refl _ _).alloc _) (fun q => q)) k rfl hk (by simp [HM.out]) ?_)
    exact bodyPost_ret (v := .tuple #[.agg #[.int .u64 0, .int .u64 0, .int .i64 0], .bool false]) (by simp [results, Try.results40, go_sem]) rfl ⟨rfl, ((Below.refl _ _).alloc (Nat.le_refl _) _).alloc (by simp <;> omega) _⟩

set_option maxRecDepth 100000 in
set_option maxHeartbeats 800000 in
theorem min_none (r : Nat) (Fv : Value) (A : Int → Option V) (X : Nat → Prop) (w : World) (h : Ob w r Fv 0 A X) :
    Calls Try.prog 35 #[.pointer (some ⟨r, 0, none⟩)] w fun e w' => e = .returned (.tuple #[.int .i64 0, .agg #[.int .u64 0, .int .u64 0, .int .i64 0], .bool false]) ∧ Below w.heap.size w w' := by
  obtain ⟨G, B, sv, T, M, h, h1, h2, h3, h4⟩ := h
  have c1 := cell_of_row _ _ 1 _ _ _ h.blk
  have hrlt := lt_of_row h.blk
  obtain ⟨A1, cap, rfl, hc1, hc2⟩ := h.its.slice
  go_enter Try.func35, Try.ntmps35
  go_wp2
  go_region
  go_wp2
  exact bodyPost_ret (v := .tuple #[.int .i64 0, .agg #[.int .u64 0, .int .u64 0, .int .i64 0], .bool false]) (by simp [results, Try.results35, go_sem]) rfl ⟨rfl, below_drewN (((Below.refl w.heap.size w).alloc (Nat.le_refl _) _).alloc (by simp <;> omega) _) 1⟩

set_option maxRecDepth 100000 in
set_option maxHeartbeats 800000 in
theorem min_some (r : Nat) (Fv : Value) (n : Nat) (A : Int → Option V) (X : Nat → Prop) (w : World) (h : Ob w r Fv n A X) (hn : 0 < n) (hn2 : n < 1073741824) :
    Calls Try.prog 35 #[.pointer (some ⟨r, 0, none⟩)] w fun e w' => ∃ (k : Int) (p q : Nat) (d : Int), e = .returned (.tuple #[.int .i64 k, .agg #[.int .u64 (p : Int), .int .u64 (q : Int), .int .i64 d], .bool true]) ∧ A k = some (p, q, d) ∧ (∀ k' v', A k' = some v' → lt v' (p, q, d) = false) ∧ Below w.heap.size w w' := by
  obtain ⟨G, B, sv, T, M, h, h1, h2, h3, h4⟩ := h
  have c1 := cell_of_row _ _ 1 _ _ _ h.blk
  have hrlt := lt_of_row h.blk
  obtain ⟨g, cap, hG, rfl, hrow⟩ := h.its.some_ hn
  have hglt := hrow.lt
  obtain ⟨⟨k, p, q, d⟩, hT⟩ : ∃ x, T 0 = x := ⟨_, rfl⟩
  have hmin := h.full.mn odr hn
  rw [hT] at hmin
  have x0 : w.cell? ⟨g, 0, none⟩ = some (.int .i64 k) := hrow.cell (c := 0) hn (by rw [hT]; rfl) rfl
  have x1 : w.cell? ⟨g, 1, none⟩ = some (.int .u64 (p : Int)) := hrow.cell (c := 1) hn (by rw [hT]; rfl) rfl
  have x2 : w.cell? ⟨g, 2, none⟩ = some (.int .u64 (q : Int)) := hrow.cell (c := 2) hn (by rw [hT]; rfl) rfl
  have x3 : w.cell? ⟨g, 3, none⟩ = some (.int .i64 d) := hrow.cell (c := 3) hn (by rw [hT]; rfl) rfl
  have hn0 : (0 : Int) < (n : Int) := by omega
  have hnz : ((n : Int) == 0) = false := by simp; omega
  have HMN := Lib.hid hmin
  clear hmin hT
  go_enter Try.func35, Try.ntmps35
  go_wp2
  go_region
  go_wp2
  exact bodyPost_ret (v := .tuple #[.int .i64 k, .agg #[.int .u64 (p : Int), .int .u64 (q : Int), .int .i64 d], .bool true]) (by simp [results, Try.results35, go_sem]) rfl ⟨k, p, q, d, rfl, HMN.out.1, HMN.out.2, below_drewN ((Below.refl w.heap.size w).alloc (Nat.le_refl _) _) 1⟩
end Go.Proofs.Ytpagleilaaljoaa.W.HR
