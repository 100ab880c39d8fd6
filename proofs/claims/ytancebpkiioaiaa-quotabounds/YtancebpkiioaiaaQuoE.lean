/- Contracts of package quota: Ask whole; Begin. -/
import Derived.Test.YtancebpkiioaiaaQuoD
namespace Go.Proofs.Ytancebpkiioaiaa.W
open Go.RowKit

abbrev zs3 : Obj := .cells #[.int .i64 0, .int .i64 0, .int .i64 0] 78
/-- Behind the sum, which was made first. -/
structure PostA (w3 w' : World) (g l k o lim : Nat) : Prop where
  b : Below w3.heap.size w3 w'
  c1 : w'.cell? ⟨g, 1, none⟩ = some (.int .i64 (o : Int))
  cl : w'.cell? ⟨l, k, none⟩ = some (.int .i64 (lim : Int))
theorem sum_first (l : Nat) (A : Int → Option Nat) (F : Int → Option Fn) (w3 : World) (g k o lim p q u : Nat) (h : Lg w3 l A F) (c1 : w3.cell? ⟨g, 1, none⟩ = some (.int .i64 (o : Int))) (cl : w3.cell? ⟨l, k, none⟩ = some (.int .i64 (lim : Int))) (hp : sR F (o : Int) = p) (hq : sB F (o : Int) = q) (hu : sO F (o : Int) = u) :
    Calls Try.prog 37 #[.pointer (some ⟨l, 0, none⟩), .int .i64 (o : Int)] w3.drew fun e w' => e = .returned (Sums p q u) ∧ PostA w3 w' g l k o lim := by
  refine (l_sum l A F (o : Int) w3.drew (h.drewN 1)).mono ?_
  rintro e w' ⟨rfl, hb⟩
  rw [hp, hq, hu]
  have hb' : Below w3.heap.size w3 w' := (below_drewN (Below.refl _ _) 1).trans hb
  exact ⟨rfl, hb', (Only.of_below (S := fun _ => False) hb').cell (fun q => q) c1, (Only.of_below (S := fun _ => False) hb').cell (fun q => q) cl⟩
theorem PostA.more {w3 w' : World} {g l k o lim : Nat} (h : PostA w3 w' g l k o lim) : (w'.alloc zs3).cell? ⟨g, 1, none⟩ = some (.int .i64 (o : Int)) ∧ (w'.alloc zs3).cell? ⟨l, k, none⟩ = some (.int .i64 (lim : Int)) :=
  have ba : Below w'.heap.size w' (w'.alloc zs3) := (Below.refl _ _).alloc (Nat.le_refl _) _
  ⟨(Only.of_below (S := fun _ => False) ba).cell (fun q => q) h.c1, (Only.of_below (S := fun _ => False) ba).cell (fun q => q) h.cl⟩
/-- Behind the sum, where the block for it was made first. -/
structure PostB (w3 w' : World) (g l k o lim : Nat) : Prop where
  a : PostA w3 w' g l k o lim
  n0 : w'.cell? ⟨w3.heap.size, 0, none⟩ = some (.int .i64 0)
  n1 : w'.cell? ⟨w3.heap.size, 1, none⟩ = some (.int .i64 0)
  n2 : w'.cell? ⟨w3.heap.size, 2, none⟩ = some (.int .i64 0)
  z0 : w'.frozen? ⟨w3.heap.size, 0, none⟩ = false
  z1 : w'.frozen? ⟨w3.heap.size, 1, none⟩ = false
  z2 : w'.frozen? ⟨w3.heap.size, 2, none⟩ = false
  row : w'.heap[w3.heap.size]? = some (.cells [.int .i64 0, .int .i64 0, .int .i64 0].toArray 78 (0, 0))
theorem sum_then (l : Nat) (A : Int → Option Nat) (F : Int → Option Fn) (w3 : World) (g k o lim p q u : Nat) (h : Lg w3 l A F) (c1 : w3.cell? ⟨g, 1, none⟩ = some (.int .i64 (o : Int))) (cl : w3.cell? ⟨l, k, none⟩ = some (.int .i64 (lim : Int))) (hp : sR F (o : Int) = p) (hq : sB F (o : Int) = q) (hu : sO F (o : Int) = u) :
    Calls Try.prog 37 #[.pointer (some ⟨l, 0, none⟩), .int .i64 (o : Int)] (w3.alloc zs3).drew fun e w' => e = .returned (Sums p q u) ∧ PostB w3 w' g l k o lim := by
  have ba : Below w3.heap.size w3 (w3.alloc zs3).drew := below_drewN ((Below.refl _ _).alloc (Nat.le_refl _) _) 1
  refine (l_sum l A F (o : Int) (w3.alloc zs3).drew (h.keep ba h.lt)).mono ?_
  rintro e w' ⟨rfl, hb⟩
  rw [hp, hq, hu]
  have hb' : Below w3.heap.size w3 w' := ba.trans (hb.mono ba.size)
  have hr : w'.heap[w3.heap.size]? = some (.cells [.int .i64 0, .int .i64 0, .int .i64 0].toArray 78 (0, 0)) := by
    rw [hb.block _ (show w3.heap.size < (w3.alloc zs3).heap.size by simp)]; exact heap_alloc_new _ _
  exact ⟨rfl, ⟨hb', (Only.of_below (S := fun _ => False) hb').cell (fun q => q) c1, (Only.of_below (S := fun _ => False) hb').cell (fun q => q) cl⟩, cellL hr 0 _ rfl, cellL hr 1 _ rfl, cellL hr 2 _ rfl, frozen_of_row _ _ _ _ _ hr, frozen_of_row _ _ _ _ _ hr, frozen_of_row _ _ _ _ _ hr, hr⟩

abbrev SAsk (w3 : World) (g l k o m : Nat) (w' : World) : Prop := w'.cell? ⟨g, 1, none⟩ = some (.int .i64 (o : Int)) ∧ w'.cell? ⟨l, k, none⟩ = some (.int .i64 (m : Int)) ∧ Below w3.heap.size w3 w'
theorem SAsk.below {w3 w' w'' : World} {g l k o m : Nat} (hS : SAsk w3 g l k o m w') (hb : Below w'.heap.size w' w'') : SAsk w3 g l k o m w'' :=
  ⟨(Only.of_below (S := fun _ => False) hb).cell (fun q => q) hS.1, (Only.of_below (S := fun _ => False) hb).cell (fun q => q) hS.2.1, hS.2.2.trans (hb.mono hS.2.2.size)⟩
theorem SAsk.alloc {w3 w' : World} {g l k o m : Nat} (hS : SAsk w3 g l k o m w') (ob : Obj) : SAsk w3 g l k o m (w'.alloc ob) := hS.below ((Below.refl _ _).alloc (Nat.le_refl _) _)
theorem SAsk.st {w3 w' : World} {g l k o m : Nat} (hS : SAsk w3 g l k o m w') (hg : g < w3.heap.size) (hl : l < w3.heap.size) (v0 v1 v2 : Value) : SAsk w3 g l k o m (((w'.setCell ⟨w3.heap.size, 0, none⟩ v0).setCell ⟨w3.heap.size, 1, none⟩ v1).setCell ⟨w3.heap.size, 2, none⟩ v2) := by
  have hw := grown_put (grown_put (grown_set w' 0 w3.heap.size 0 v0) 1 v1) 2 v2
  have hO : Only w' (((w'.setCell ⟨w3.heap.size, 0, none⟩ v0).setCell ⟨w3.heap.size, 1, none⟩ v1).setCell ⟨w3.heap.size, 2, none⟩ v2) (fun j => j = w3.heap.size) := Only.grown hw (Or.inl rfl)
  exact ⟨hO.cell (fun q => by simp at q; omega) hS.1, hO.cell (fun q => by simp at q; omega) hS.2.1, below_row hS.2.2 (Nat.le_refl _) hw hS.2.2.size⟩
/-- Behind the region: the sums lie in a block. -/
def SEnd (w3 : World) (s p q u : Nat) (w' : World) : Prop := w'.heap[s]? = some (.cells #[.int .i64 (p : Int), .int .i64 (q : Int), .int .i64 (u : Int)] 78 (0, 0)) ∧ w3.heap.size ≤ s
theorem send_alloc (w3 w' : World) (p q u : Nat) (h : w3.heap.size ≤ w'.heap.size) : SEnd w3 w'.heap.size p q u (w'.alloc (.cells #[.int .i64 (p : Int), .int .i64 (q : Int), .int .i64 (u : Int)] 78)) := ⟨heap_alloc_new _ _, h⟩
theorem send_st (w3 w' : World) (p q u : Nat) (h : w'.heap[w3.heap.size]? = some (.cells [.int .i64 0, .int .i64 0, .int .i64 0].toArray 78 (0, 0))) : SEnd w3 w3.heap.size p q u (((w'.setCell ⟨w3.heap.size, 0, none⟩ (.int .i64 (p : Int))).setCell ⟨w3.heap.size, 1, none⟩ (.int .i64 (q : Int))).setCell ⟨w3.heap.size, 2, none⟩ (.int .i64 (u : Int))) :=
  ⟨set_rowL (set_rowL (set_rowL h 0 _) 1 _) 2 _, Nat.le_refl _⟩

set_option maxRecDepth 100000 in
set_option maxHeartbeats 3200000 in
theorem l_ask2 (l : Nat) (A : Int → Option Nat) (F : Int → Option Fn) (x : Int) (w : World) (h : Lg w l A F) (o r b : Nat) (hF : F x = some (o, r, b)) (hrb : ¬ (0 < r ∧ r ≤ b)) :
    Calls Try.prog 29 #[.pointer (some ⟨l, 0, none⟩), .int .i64 x] w fun e w' => e = .returned (.tuple #[.int .i64 ((askC A F x).1 : Int), .bool (askC A F x).2]) ∧ Below w.heap.size w w' := by
  rw [ask_some hF, if_neg hrb]
  have H := Lib.hid h
  have hbd := h.ab.f0 _ _ _ _ hF
  obtain ⟨f, rfl⟩ : ∃ f : Nat, x = (f : Int) := ⟨x.toNat, by omega⟩
  have hfi : (f : Int) < 64 := by omega
  have ho : o < 16 := by omega
  have hoI : (o : Int) < 16 := by omega
  have f0 := h.f0 (f := f) (by omega)
  have f1 := h.f1 (f := f) (by omega)
  have f2 := h.f2 (f := f) (by omega)
  have f3 := h.f3 (f := f) (by omega)
  rw [hF] at f0 f1 f2 f3
  have f0' : w.cell? ⟨l, 32 + f * 4, none⟩ = some (.bool true) := f0
  have f1' : w.cell? ⟨l, 32 + f * 4 + 1, none⟩ = some (.int .i64 (o : Int)) := f1
  have f2' : w.cell? ⟨l, 32 + f * 4 + 2, none⟩ = some (.int .i64 (r : Int)) := f2
  have f3' : w.cell? ⟨l, 32 + f * 4 + 3, none⟩ = some (.int .i64 (b : Int)) := f3
  have HF := Lib.hid hF
  have ca := h.a1 ho
  have hlim : (A (o : Int)).getD 0 ≤ 1000 := by
    cases q : A (o : Int) with
    | none => simp
    | some n => exact (h.ab.a0 _ _ q).2.2
  have hp1 := h.ab.sR (o : Int)
  have hq1 := h.ab.sB (o : Int)
  have hu1 := h.ab.sO (o : Int)
  obtain ⟨lim, hlm⟩ : ∃ n, (A (o : Int)).getD 0 = n := ⟨_, rfl⟩
  obtain ⟨p, hp⟩ : ∃ p, sR F (o : Int) = p := ⟨_, rfl⟩
  obtain ⟨q, hq⟩ : ∃ q, sB F (o : Int) = q := ⟨_, rfl⟩
  obtain ⟨u, hu⟩ : ∃ u, sO F (o : Int) = u := ⟨_, rfl⟩
  rw [hlm] at ca hlim
  rw [hp] at hp1
  rw [hq] at hq1
  rw [hu] at hu1
  rw [hlm, hp, hq, hu]
  have hpI : (p : Int) ≤ 64000 := by omega
  have hlI : (lim : Int) ≤ 1000 := by omega
  have hr0 : r = 0 ∨ (0 < r ∧ b < r) := by omega
  obtain ⟨an, han⟩ : ∃ an : Nat × Bool, (if lim ≤ q ∨ (r = 0 ∧ lim ≤ u + p) then (2, true) else (0, true)) = an := ⟨_, rfl⟩
  rw [han]
  have HAN := Lib.hid han
  clear han
  have HC := Lib.hid ca
  have hl := h.lt
  have HP := Lib.hid hp
  have HQ := Lib.hid hq
  have HU := Lib.hid hu
  clear h hF f0 f1 f2 f3 hbd ca hp hq hu hlm hp1 hq1 hu1 hlim hrb
  go_enter Try.func29, Try.ntmps29
  go_wp2_with fail
  refine (l_has l A F _ _ H.out).mono ?_
  rintro e w' ⟨rfl, rfl⟩
  rw [HF.out]
  go_upto_region 4 with (fail)
  have hb3 : Below w.heap.size w (w.alloc (.cells #[.bool true, .int .i64 (o : Int), .int .i64 (r : Int), .int .i64 (b : Int)] 73)) := (Below.refl _ _).alloc (Nat.le_refl _) _
  have H3 := Lib.hid (H.out.keep hb3 hl)
  have HC3 := Lib.hid ((Only.of_below (S := fun _ => False) hb3).cell (fun q => q) HC.out)
  have hq3 := heap_alloc_new w (.cells #[.bool true, .int .i64 (o : Int), .int .i64 (r : Int), .int .i64 (b : Int)] 73)
  obtain ⟨g, hg⟩ : ∃ g, w.heap.size = g := ⟨_, rfl⟩
  rw [hg] at hq3
  rw [hg]
  have HG := Lib.hid hg
  clear hg f0' f1' f2' f3' HC
  generalize w.alloc (.cells #[.bool true, .int .i64 (o : Int), .int .i64 (r : Int), .int .i64 (b : Int)] 73) = w3 at hb3 H3 HC3 hq3 ⊢
  have y1 := cell_of_row _ _ 1 _ _ _ hq3
  have y2 := cell_of_row _ _ 2 _ _ _ hq3
  have y3 := cell_of_row _ _ 3 _ _ _ hq3
  have y1' : w3.cell? ⟨g, 1, none⟩ = some (.int .i64 (o : Int)) := y1
  have y2' : w3.cell? ⟨g, 2, none⟩ = some (.int .i64 (r : Int)) := y2
  have hl3 := H3.out.lt
  clear hq3
  rcases hr0 with rfl | ⟨hr0, hbr⟩
  · go_upto_region 6 with (fail)
    have hS0 : SAsk w3 g l (o * 2 + 1) o lim w3 := ⟨y1', HC3.out, Below.refl _ _⟩
    have HS0 := Lib.hid (show SAsk w3 g l (o * 2 + 1) o lim w3.drew from ⟨y1', HC3.out, below_drewN (Below.refl _ _) 1⟩)
    have HSA : Hid (∀ ob, SAsk w3 g l (o * 2 + 1) o lim (w3.alloc ob).drew) := Lib.hid (fun ob => ⟨(hS0.alloc ob).1, (hS0.alloc ob).2.1, below_drewN (hS0.alloc ob).2.2 1⟩)
    have SB := Lib.hid (sum_then l A F w3 g (o * 2 + 1) o lim p q u H3.out y1' HC3.out HP.out HQ.out HU.out)
    have hg3 : g < w3.heap.size := cell_lt y1'
    have HY2 := Lib.hid y2'
    clear y1 y2 y3 y1' y2' hS0
    go_region_held3 (fun w' => w'.cell? ⟨g, 1, none⟩ = some (.int .i64 (o : Int)) ∧ w'.cell? ⟨l, o * 2 + 1, none⟩ = some (.int .i64 (lim : Int)) ∧ Below w3.heap.size w3 w') (first | exact HS0.out | exact sst.out _ _ _ | exact sal.out _ | exact sw.out | exact HSA.out _ | assumption)
      (first
        | (go_at_call 37; refine SB.out.mono ?_; rintro e w' ⟨rfl, PB⟩; have n0 := PB.n0; have n1 := PB.n1; have n2 := PB.n2; have z0 := PB.z0; have z1 := PB.z1; have z2 := PB.z2; have hsw : SAsk w3 g l (o * 2 + 1) o lim w' := ⟨PB.a.c1, PB.a.cl, PB.a.b⟩; have sw := Lib.hid hsw; have sst := Lib.hid (fun v0 v1 v2 => hsw.st hg3 hl3 v0 v1 v2); clear hsw)
        | (go_at_call 37; refine (l_sum l A F _ _ (H3.out.drewN 1)).mono ?_; rintro e w' ⟨rfl, hbw⟩; rw [HP.out, HQ.out, HU.out]; have hsw : SAsk w3 g l (o * 2 + 1) o lim w' := SAsk.below HS0.out hbw; have sw := Lib.hid hsw; have sal := Lib.hid (fun ob => hsw.alloc ob); clear hsw))
    · have hE := send_alloc w3 w' p q u sw.out.2.2.size
      have hS := sal.out (.cells #[.int .i64 (p : Int), .int .i64 (q : Int), .int .i64 (u : Int)] 78)
      generalize w'.alloc (.cells #[.int .i64 (p : Int), .int .i64 (q : Int), .int .i64 (u : Int)] 78) = wE at hE hS ⊢
      obtain ⟨sE, hsE⟩ : ∃ s, w'.heap.size = s := ⟨_, rfl⟩
      rw [hsE] at hE
      rw [hsE]
      clear hsE sal sw hbw
      have bE := hb3.trans (hS.2.2.mono hb3.size)
      have kr := (Only.of_below (S := fun _ => False) hS.2.2).cell (x := ⟨g, 2, none⟩) (fun q => q) HY2.out
      clear hS
      have e0 := cell_of_row _ _ 0 _ _ _ hE.1
      have e1 := cell_of_row _ _ 1 _ _ _ hE.1
      have e2 := cell_of_row _ _ 2 _ _ _ hE.1
      clear hE
      by_cases hc1 : lim ≤ q
      · go_wp2_with fail
        go_ret2
        refine ⟨?_, bE⟩
        have hA := HAN.out
        rw [if_pos (Or.inl hc1)] at hA
        rw [← hA]; rfl
      · by_cases hc2 : lim ≤ u + p
        · have hc3 : decide ((lim : Int) - (p : Int) ≤ (u : Int)) = true := decide_eq_true (by omega)
          go_wp2_with fail
          go_ret2
          refine ⟨?_, bE⟩
          have hA := HAN.out
          rw [if_pos (Or.inr ⟨by trivial, hc2⟩)] at hA
          rw [← hA]; rfl
        · have hc3 : decide ((lim : Int) - (p : Int) ≤ (u : Int)) = false := decide_eq_false (by omega)
          go_wp2_with fail
          go_ret2
          refine ⟨?_, bE⟩
          have hA := HAN.out
          rw [if_neg (fun h => h.elim hc1 (fun h => hc2 h.2))] at hA
          rw [← hA]; rfl
    · have hE := send_st w3 w' p q u PB.row
      have hS := sst.out (.int .i64 (p : Int)) (.int .i64 (q : Int)) (.int .i64 (u : Int))
      clear n0 n1 n2 z0 z1 z2
      generalize (((w'.setCell ⟨w3.heap.size, 0, none⟩ (.int .i64 (p : Int))).setCell ⟨w3.heap.size, 1, none⟩ (.int .i64 (q : Int))).setCell ⟨w3.heap.size, 2, none⟩ (.int .i64 (u : Int))) = wE at hE hS ⊢
      have bE := hb3.trans (hS.2.2.mono hb3.size)
      have kr := (Only.of_below (S := fun _ => False) hS.2.2).cell (x := ⟨g, 2, none⟩) (fun q => q) HY2.out
      clear sst sw PB hS
      obtain ⟨sE, hsE⟩ : ∃ s, w3.heap.size = s := ⟨_, rfl⟩
      rw [hsE] at hE
      rw [hsE]
      clear hsE
      have e0 := cell_of_row _ _ 0 _ _ _ hE.1
      have e1 := cell_of_row _ _ 1 _ _ _ hE.1
      have e2 := cell_of_row _ _ 2 _ _ _ hE.1
      clear hE
      by_cases hc1 : lim ≤ q
      · go_wp2_with fail
        go_ret2
        refine ⟨?_, bE⟩
        have hA := HAN.out
        rw [if_pos (Or.inl hc1)] at hA
        rw [← hA]; rfl
      · by_cases hc2 : lim ≤ u + p
        · have hc3 : decide ((lim : Int) - (p : Int) ≤ (u : Int)) = true := decide_eq_true (by omega)
          go_wp2_with fail
          go_ret2
          refine ⟨?_, bE⟩
          have hA := HAN.out
          rw [if_pos (Or.inr ⟨by trivial, hc2⟩)] at hA
          rw [← hA]; rfl
        · have hc3 : decide ((lim : Int) - (p : Int) ≤ (u : Int)) = false := decide_eq_false (by omega)
          go_wp2_with fail
          go_ret2
          refine ⟨?_, bE⟩
          have hA := HAN.out
          rw [if_neg (fun h => h.elim hc1 (fun h => hc2 h.2))] at hA
          rw [← hA]; rfl
  · have hr1 : ((r : Int) == 0) = false := by simp; omega
    have HR0 := Lib.hid (show ¬ r = 0 by omega)
    have hr2 : decide ((0 : Int) < (r : Int)) = true := decide_eq_true (by omega)
    go_upto_region 6 with (fail)
    have hS0 : SAsk w3 g l (o * 2 + 1) o lim w3 := ⟨y1', HC3.out, Below.refl _ _⟩
    have HS0 := Lib.hid (show SAsk w3 g l (o * 2 + 1) o lim w3.drew from ⟨y1', HC3.out, below_drewN (Below.refl _ _) 1⟩)
    have HSA : Hid (∀ ob, SAsk w3 g l (o * 2 + 1) o lim (w3.alloc ob).drew) := Lib.hid (fun ob => ⟨(hS0.alloc ob).1, (hS0.alloc ob).2.1, below_drewN (hS0.alloc ob).2.2 1⟩)
    have SB := Lib.hid (sum_then l A F w3 g (o * 2 + 1) o lim p q u H3.out y1' HC3.out HP.out HQ.out HU.out)
    have hg3 : g < w3.heap.size := cell_lt y1'
    have HY2 := Lib.hid y2'
    clear y1 y2 y3 y1' y2' hS0
    go_region_held3 (fun w' => w'.cell? ⟨g, 1, none⟩ = some (.int .i64 (o : Int)) ∧ w'.cell? ⟨l, o * 2 + 1, none⟩ = some (.int .i64 (lim : Int)) ∧ Below w3.heap.size w3 w') (first | exact HS0.out | exact sst.out _ _ _ | exact sal.out _ | exact sw.out | exact HSA.out _ | assumption)
      (first
        | (go_at_call 37; refine SB.out.mono ?_; rintro e w' ⟨rfl, PB⟩; have n0 := PB.n0; have n1 := PB.n1; have n2 := PB.n2; have z0 := PB.z0; have z1 := PB.z1; have z2 := PB.z2; have hsw : SAsk w3 g l (o * 2 + 1) o lim w' := ⟨PB.a.c1, PB.a.cl, PB.a.b⟩; have sw := Lib.hid hsw; have sst := Lib.hid (fun v0 v1 v2 => hsw.st hg3 hl3 v0 v1 v2); clear hsw)
        | (go_at_call 37; refine (l_sum l A F _ _ (H3.out.drewN 1)).mono ?_; rintro e w' ⟨rfl, hbw⟩; rw [HP.out, HQ.out, HU.out]; have hsw : SAsk w3 g l (o * 2 + 1) o lim w' := SAsk.below HS0.out hbw; have sw := Lib.hid hsw; have sal := Lib.hid (fun ob => hsw.alloc ob); clear hsw))
    · have hE := send_alloc w3 w' p q u sw.out.2.2.size
      have hS := sal.out (.cells #[.int .i64 (p : Int), .int .i64 (q : Int), .int .i64 (u : Int)] 78)
      generalize w'.alloc (.cells #[.int .i64 (p : Int), .int .i64 (q : Int), .int .i64 (u : Int)] 78) = wE at hE hS ⊢
      obtain ⟨sE, hsE⟩ : ∃ s, w'.heap.size = s := ⟨_, rfl⟩
      rw [hsE] at hE
      rw [hsE]
      clear hsE sal sw hbw
      have bE := hb3.trans (hS.2.2.mono hb3.size)
      have kr := (Only.of_below (S := fun _ => False) hS.2.2).cell (x := ⟨g, 2, none⟩) (fun q => q) HY2.out
      clear hS
      have e0 := cell_of_row _ _ 0 _ _ _ hE.1
      have e1 := cell_of_row _ _ 1 _ _ _ hE.1
      have e2 := cell_of_row _ _ 2 _ _ _ hE.1
      clear hE
      by_cases hc1 : lim ≤ q
      · go_wp2_with fail
        go_ret2
        refine ⟨?_, bE⟩
        have hA := HAN.out
        rw [if_pos (Or.inl hc1)] at hA
        rw [← hA]; rfl
      · go_wp2_with fail
        go_ret2
        refine ⟨?_, bE⟩
        have hA := HAN.out
        rw [if_neg (fun h => h.elim hc1 (fun h => HR0.out h.1))] at hA
        rw [← hA]; rfl
    · have hE := send_st w3 w' p q u PB.row
      have hS := sst.out (.int .i64 (p : Int)) (.int .i64 (q : Int)) (.int .i64 (u : Int))
      clear n0 n1 n2 z0 z1 z2
      generalize (((w'.setCell ⟨w3.heap.size, 0, none⟩ (.int .i64 (p : Int))).setCell ⟨w3.heap.size, 1, none⟩ (.int .i64 (q : Int))).setCell ⟨w3.heap.size, 2, none⟩ (.int .i64 (u : Int))) = wE at hE hS ⊢
      have bE := hb3.trans (hS.2.2.mono hb3.size)
      have kr := (Only.of_below (S := fun _ => False) hS.2.2).cell (x := ⟨g, 2, none⟩) (fun q => q) HY2.out
      clear sst sw PB hS
      obtain ⟨sE, hsE⟩ : ∃ s, w3.heap.size = s := ⟨_, rfl⟩
      rw [hsE] at hE
      rw [hsE]
      clear hsE
      have e0 := cell_of_row _ _ 0 _ _ _ hE.1
      have e1 := cell_of_row _ _ 1 _ _ _ hE.1
      have e2 := cell_of_row _ _ 2 _ _ _ hE.1
      clear hE
      by_cases hc1 : lim ≤ q
      · go_wp2_with fail
        go_ret2
        refine ⟨?_, bE⟩
        have hA := HAN.out
        rw [if_pos (Or.inl hc1)] at hA
        rw [← hA]; rfl
      · go_wp2_with fail
        go_ret2
        refine ⟨?_, bE⟩
        have hA := HAN.out
        rw [if_neg (fun h => h.elim hc1 (fun h => HR0.out h.1))] at hA
        rw [← hA]; rfl

theorem l_ask (l : Nat) (A : Int → Option Nat) (F : Int → Option Fn) (x : Int) (w : World) (h : Lg w l A F) :
    Calls Try.prog 29 #[.pointer (some ⟨l, 0, none⟩), .int .i64 x] w fun e w' => e = .returned (.tuple #[.int .i64 ((askC A F x).1 : Int), .bool (askC A F x).2]) ∧ Below w.heap.size w w' := by
  cases hF : F x with
  | none => exact l_ask0 l A F x w h hF
  | some v =>
    obtain ⟨o, r, b⟩ := v
    by_cases hrb : 0 < r ∧ r ≤ b
    · exact l_ask1 l A F x w h o r b hF hrb.1 hrb.2
    · exact l_ask2 l A F x w h o r b hF hrb

end Go.Proofs.Ytancebpkiioaiaa.W
