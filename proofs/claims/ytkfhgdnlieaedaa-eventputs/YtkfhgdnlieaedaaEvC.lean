/- Contracts of slices.Grow of nil, slices.Concat of two, and event.Put. -/
import Derived.Test.YtkfhgdnlieaedaaEvB
import Derived.Test.YtkfhgdnlieaedaaWireF
import Derived.Lib.AppendZeros
import Derived.Deep.Cut
namespace Go.Proofs.Ytkfhgdnlieaedaa.W
open Go.RowKit

theorem infoB1 : (Try.prog.info? 5).map (fun i => (i.zero, i.size, i.bytes)) = some (some (.int .u8 0), 1, 1) := by kernel_rfl

set_option maxRecDepth 100000 in
set_option maxHeartbeats 1600000 in
theorem grow_zero (w : World) : Calls Try.prog 27 #[.slice none 0 0, .int .i64 0] w fun e w' => e = .returned (.slice none 0 0) ∧ w = w' := by
  go_enter Try.func27, Try.ntmps27
  go_wp2
  go_ret
  exact ⟨rfl, rfl⟩
set_option maxRecDepth 100000 in
set_option maxHeartbeats 1600000 in
theorem grow_pos (n : Nat) (w : World) (h0 : 0 < n) (hn : n ≤ 1000000000) : Calls Try.prog 27 #[.slice none 0 0, .int .i64 (n : Int)] w fun e w' =>
    ∃ G, e = .returned (.slice (some ⟨w.heap.size, 0, none⟩) 0 G) ∧ w'.ownsRow w.heap.size 5 1 (.slice (some ⟨w.heap.size, 0, none⟩) 0 G) 0 [] ∧ Below w.heap.size w w' := by
  obtain ⟨i0, hi, hz0, hz1, hz2⟩ := info_parts infoB1
  have hGn := grownCap_ge w n 0 5
  have hGm := grownCap_le_maxLen w n 0 5 (by unfold maxLen; omega)
  have hrz : ∀ ty, (Builtin.append_ #[24, 3] ty #[.slice none 0 0, .int .i64 (n : Int)]).run Try.prog w = .ok (.slice (some ⟨w.heap.size, 0, none⟩) n (grownCap w n 0 5)) (w.drew.alloc (.cells (Builtin.zeroCells (Value.int .u8 0).cells n ++ Builtin.zeroCells (Value.int .u8 0).cells (grownCap w n 0 5 - n)) 5)) := fun ty =>
    Lib.run_append_nil_zeros w 24 3 ty 5 i0 (.int .u8 0) .i64 .i64 Try.underlying24 Try.underlying3 hi hz0 n h0 (by omega) (by omega) (by rw [hz2]; omega)
  obtain ⟨G, hG⟩ : ∃ G, grownCap w n 0 5 = G := ⟨_, rfl⟩
  rw [hG] at hrz hGn hGm
  have own : (w.drew.alloc (.cells (Builtin.zeroCells (Value.int .u8 0).cells n ++ Builtin.zeroCells (Value.int .u8 0).cells (G - n)) 5)).ownsRow w.heap.size 5 1 (.slice (some ⟨w.heap.size, 0, none⟩) 0 G) 0 [] :=
    World.ownsRow_made w.drew _ G (Nat.le_refl _) hGm (by simp [size_zeroCells, Value.cells]; omega)
  have hb : Below w.heap.size w (w.drew.alloc (.cells (Builtin.zeroCells (Value.int .u8 0).cells n ++ Builtin.zeroCells (Value.int .u8 0).cells (G - n)) 5)) := (below_drewN (Below.refl w.heap.size w) 1).alloc (Nat.le_refl _) _
  have HO := Lib.hid own
  have HBL := Lib.hid hb
  have h63 : (G : Int) ≤ 9223372036854775807 := by unfold maxLen at hGm; omega
  clear own hb hG
  generalize w.drew.alloc (.cells (Builtin.zeroCells (Value.int .u8 0).cells n ++ Builtin.zeroCells (Value.int .u8 0).cells (G - n)) 5) = w1 at hrz HO HBL
  go_enter Try.func27, Try.ntmps27
  go_wp2_with (at_builtin; refine Lib.wpList_append_run _ rfl _ _ _ _ rfl _ _ rfl rfl _ _ (hrz _) ?_)
  go_ret
  exact ⟨G, rfl, HO.out, HBL.out⟩

/-- These bytes are answered, in memory that is new, and nothing that was there has turned. -/
def NewL (w : World) (bs : List Nat) (e : Ending) (w' : World) : Prop :=
  ∃ A m c, Hid (m = bs.length) ∧ e = .returned (.slice A m c) ∧ m ≤ c ∧ c ≤ maxLen ∧ Lies w' w'.heap.size A (bs.map bv) ∧ (∀ ad, A = some ad → w.heap.size ≤ ad.block) ∧ Below w.heap.size w w'
theorem NewL.nil {w w' : World} {bs : List Nat} (h : bs = []) (hb : Below w.heap.size w w') : NewL w bs (.returned (.slice none 0 0)) w' := by
  subst h; exact ⟨none, 0, 0, rfl, rfl, Nat.le_refl _, Nat.zero_le _, Lies.nil _ _ _, by simp, hb⟩
theorem NewL.own {w w' : World} {bs : List Nat} {g m c : Nat} (hm : m = bs.length) (h : w'.ownsRow w.heap.size 5 1 (.slice (some ⟨g, 0, none⟩) m c) m (bs.map bv)) (hb : Below w.heap.size w w') : NewL w bs (.returned (.slice (some ⟨g, 0, none⟩) m c)) w' :=
  ⟨_, m, c, hm, rfl, (own_cap h).1, own_max h, lies_own h, by rintro ad ⟨rfl⟩; exact (own_cap h).2.2, hb⟩

/-- append of nothing to nil. -/
theorem wpList_app_none {w : World} {ops : Array Oper} {rest : List Oper} {o : Oper} {a : Act} {Q : Exit → Act → World → Prop} (hgd : o.guard = none) (s x : Operand)
    (ho : o.op = .call { callee := .builtin .append, args := #[s, x], argTypes := #[24, 24] }) (A : Option Addr) (c : Nat) (hs : a.eval s = .slice none 0 0) (hx : a.eval x = .slice A 0 c)
    (h : wpList Try.prog ops Q rest (a.put o.dst (.slice none 0 0)) w) : wpList Try.prog ops Q (o :: rest) a w := by
  obtain ⟨i0, hi, hz0, hz1, hz2⟩ := info_parts infoB1
  have hrun : (Builtin.append_ #[24, 24] o.type #[.slice none 0 0, .slice A 0 c]).run Try.prog w = .ok (.slice none 0 0) w := by
    cases A <;> simp [Builtin.append_, run_underlying Try.underlying24, sizeOf, typeInfo, hi, Builtin.lenOf, Builtin.firstCells, loadCells, loadCellsFrom]
  exact Lib.wpList_append_run w hgd s x _ _ ho _ _ hs hx _ _ hrun h

set_option maxRecDepth 100000 in
set_option maxHeartbeats 3200000 in
theorem concat_any (h k c k2 c2 : Nat) (A A2 : Option Addr) (bs cs : List Nat) (w : World) (hc0 : w.cell? ⟨h, 0, none⟩ = some (.slice A k c)) (hc1 : w.cell? ⟨h, 1, none⟩ = some (.slice A2 k2 c2)) (hk : k = bs.length) (hk2 : k2 = cs.length)
    (hA : Lies w w.heap.size A (bs.map bv)) (hA2 : Lies w w.heap.size A2 (cs.map bv)) (hb1 : k ≤ 100000000) (hb2 : k2 ≤ 100000000) :
    Calls Try.prog 20 #[.slice (some ⟨h, 0, none⟩) 2 2] w (NewL w (bs ++ cs)) := by
  obtain ⟨i0, hi, hz0, hz1, hz2⟩ := info_parts infoB1
  have HK := Lib.hid hk
  have HK2 := Lib.hid hk2
  have hneg : decide ((k : Int) + (k2 : Int) < 0) = false := by simp; omega
  clear hk hk2
  go_enter Try.func20, Try.ntmps20
  go_wp2_with fail
  go_loop [3, 11] (fun vs vi => ∃ i s : Nat, vi = .int .i64 (i : Int) ∧ vs = .int .i64 (s : Int) ∧ ((i = 0 ∧ s = 0) ∨ (i = 1 ∧ k = s) ∨ (i = 2 ∧ k + k2 = s))) (fun _ vi => 2 - (intOf vi).toNat)
  case atStart => exact ⟨0, 0, rfl, rfl, Or.inl ⟨rfl, rfl⟩⟩
  case round =>
    obtain ⟨i, s, rfl, rfl, ⟨rfl, rfl⟩ | ⟨rfl, rfl⟩ | ⟨rfl, rfl⟩⟩ := hrel
    · go_wp2_with fail
      go_round
      case rel => exact ⟨1, k, by go_num, by go_num, Or.inr (Or.inl ⟨rfl, rfl⟩)⟩
      case measure => simp [intOf]
    · go_wp2_with fail
      go_round
      case rel => exact ⟨2, k + k2, by go_num, by go_num, Or.inr (Or.inr ⟨rfl, rfl⟩)⟩
      case measure => simp [intOf]
    · clear hneg
      rcases Nat.eq_zero_or_pos (k + k2) with hz | hz
      · obtain rfl : k = 0 := by omega
        obtain rfl : k2 = 0 := by omega
        have hbs : bs = [] := List.length_eq_zero_iff.1 HK.out.symm
        have hcs : cs = [] := List.length_eq_zero_iff.1 HK2.out.symm
        have HE := Lib.hid (show bs ++ cs = [] by rw [hbs, hcs]; rfl)
        clear hbs hcs hz
        go_wp2_with fail
        refine (grow_zero w).mono ?_
        rintro e w' ⟨rfl, rfl⟩
        go_wp2_with fail
        go_loop [6, 27] (fun vo vi => ∃ i : Nat, vi = .int .i64 (i : Int) ∧ vo = .slice none 0 0 ∧ (i = 0 ∨ i = 1 ∨ i = 2)) (fun _ vi => 2 - (intOf vi).toNat)
        case atStart => exact ⟨0, rfl, rfl, Or.inl rfl⟩
        case round =>
          obtain ⟨i, rfl, rfl, rfl | rfl | rfl⟩ := hrel
          · go_wp2_with (at_builtin; refine wpList_app_none rfl _ _ rfl A c rfl rfl ?_)
            go_round
            case rel => exact ⟨1, by go_num, rfl, Or.inr (Or.inl rfl)⟩
            case measure => simp [intOf]
          · go_wp2_with (at_builtin; refine wpList_app_none rfl _ _ rfl A2 c2 rfl rfl ?_)
            go_round
            case rel => exact ⟨2, by go_num, rfl, Or.inr (Or.inr rfl)⟩
            case measure => simp [intOf]
          · go_wp2_with fail
            go_ret
            exact NewL.nil HE.out (Below.refl _ _)
      · obtain ⟨S, hS⟩ : ∃ S, k + k2 = S := ⟨_, rfl⟩
        have hSi : (k : Int) + (k2 : Int) = (S : Int) := by omega
        rw [hS] at hz ⊢
        have HS := Lib.hid hS
        clear hS hSi
        go_wp2_with fail
        refine (grow_pos S w hz (by have := HS.out; omega)).mono ?_
        rintro e w1 ⟨G, rfl, own, bel⟩
        have hlt := (own_cap own).2.1
        obtain ⟨g0, hg0⟩ : ∃ g0, w.heap.size = g0 := ⟨_, rfl⟩
        have hcl : h < g0 := by rw [← hg0]; exact cell_lt hc0
        have d0 : w1.cell? ⟨h, 0, none⟩ = some (.slice A k c) := (Only.of_below (S := fun _ => False) bel).cell (fun q => q) hc0
        have d1 : w1.cell? ⟨h, 1, none⟩ = some (.slice A2 k2 c2) := (Only.of_below (S := fun _ => False) bel).cell (fun q => q) hc1
        rw [hg0] at own bel hlt
        rw [hg0]
        have hS1 := HS.out
        clear hz
        go_wp2_with fail
        go_loopg [6, 27] 2 (fun gk vo vi wr => ∃ i g C m : Nat, vi = .int .i64 (i : Int) ∧ vo = .slice (some ⟨g, 0, none⟩) m C ∧ ∃ ds : List Nat, wr.ownsRow g0 5 1 (.slice (some ⟨g, 0, none⟩) m C) m (ds.map bv) ∧ Below g0 w wr ∧ ((gk = 2 ∧ i = 0 ∧ m = 0 ∧ ds = []) ∨ (gk = 1 ∧ i = 1 ∧ k = m ∧ bs = ds) ∨ (gk = 0 ∧ i = 2 ∧ S = m ∧ bs ++ cs = ds)))
        case atStart => exact ⟨0, g0, G, 0, rfl, rfl, [], own, bel, Or.inl ⟨rfl, rfl, rfl, rfl⟩⟩
        case round =>
          obtain ⟨i, g, C, m, rfl, rfl, ds, hown, hbel, ⟨rfl, rfl, rfl, rfl⟩ | ⟨rfl, rfl, rfl, rfl⟩ | ⟨rfl, rfl, rfl, rfl⟩⟩ := hrel
          · have hg0' := hbel.size
            have e0 : wr.cell? ⟨h, 0, none⟩ = some (.slice A k c) := by rw [hbel.cell (by exact hcl)]; exact hc0
            have LL : Lies wr g0 A (bs.map bv) := by rw [hg0] at hA; exact hA.below hbel (Nat.le_refl _)
            go_wp2_with (at_builtin; refine wpList_appN rfl _ _ 24 rfl g0 5 i0 (.int .u8 0) 1 Try.underlying24 hi hz0 hz1 hz2 rfl g 0 C [] rfl hown A k c g0 (bs.map bv) rfl (by simp [HK.out]) LL (ones_u8 _) (by omega) (by omega) (by omega) ?_; intro g5 cap5 w5 own5 hg5 hat5 hlt5)
            have hgl := own_cap hown
            have b5 : Below g0 w w5 := hbel.grown hg5 (by omega) (fun j hj => by injection hj with hj; omega)
            go_roundg 1
            case measure => omega
            case rel => exact ⟨1, g5, cap5, k, by go_num, by simp, bs, by simpa using own5, b5, Or.inr (Or.inl ⟨rfl, rfl, rfl, rfl⟩)⟩
          · have hg0' := hbel.size
            have e0 : wr.cell? ⟨h, 1, none⟩ = some (.slice A2 k2 c2) := by rw [hbel.cell (by exact hcl)]; exact hc1
            have LL : Lies wr g0 A2 (cs.map bv) := by rw [hg0] at hA2; exact hA2.below hbel (Nat.le_refl _)
            go_wp2_with (at_builtin; refine wpList_appN rfl _ _ 24 rfl g0 5 i0 (.int .u8 0) 1 Try.underlying24 hi hz0 hz1 hz2 rfl g k C (bs.map bv) rfl hown A2 k2 c2 g0 (cs.map bv) rfl (by simp [HK2.out]) LL (ones_u8 _) (by omega) (by omega) (by omega) ?_; intro g5 cap5 w5 own5 hg5 hat5 hlt5)
            have hgl := own_cap hown
            have b5 : Below g0 w w5 := hbel.grown hg5 (by omega) (fun j hj => by injection hj with hj; omega)
            go_roundg 0
            case measure => omega
            case rel => exact ⟨2, g5, cap5, S, by go_num, rfl, bs ++ cs, by rw [List.map_append, ← hS1]; exact own5, b5, Or.inr (Or.inr ⟨rfl, rfl, rfl, rfl⟩)⟩
          · clear hS1
            go_wp2_with fail
            go_ret
            subst hg0
            exact NewL.own (by rw [List.length_append, ← HK.out, ← HK2.out]; exact HS.out.symm) hown hbel

theorem evB_take {k : Nat} {ns : List Nat} {i n : Nat} (h : ns[i]? = some n) : enc k ++ encs (ns.take (i + 1)) = (enc k ++ encs (ns.take i)) ++ enc n := by
  rw [encs_snoc h, List.append_assoc]
theorem IL.num {w : World} {B : Nat} {A : Option Addr} {ns : List Nat} (h : IL w B A (ints_ ns)) {i : Nat} (hi : i < ns.length) : ∃ g n, A = some ⟨g, 0, none⟩ ∧ B ≤ g ∧ g < w.heap.size ∧ ns[i]? = some n ∧ w.cell? ⟨g, i, none⟩ = some (.int .i64 (n : Int)) := by
  have hne : ints_ ns ≠ [] := by intro q; have := congrArg List.length q; simp [ints_] at this; subst this; simp at hi
  obtain ⟨g, h1, h2, h3, h4⟩ := h.cells hne
  exact ⟨g, ns[i], h1, h2, h3, List.getElem?_eq_getElem hi, h4 i _ (by unfold ints_; rw [List.getElem?_map, List.getElem?_eq_getElem hi]; rfl)⟩

theorem tail_any (A A2 : Option Addr) (k c k2 c2 : Nat) (bs cs : List Nat) (w : World) (hk : k = bs.length) (hk2 : k2 = cs.length)
    (hA : Lies w w.heap.size A (bs.map bv)) (hA2 : Lies w w.heap.size A2 (cs.map bv)) (hb1 : k ≤ 100000000) (hb2 : k2 ≤ 100000000) :
    Calls Try.prog 20 #[.slice (some ⟨w.heap.size, 0, none⟩) 2 2] (w.alloc (.cells #[.slice A k c, .slice A2 k2 c2] 24)) (NewL w (bs ++ cs)) := by
  have hn := heap_alloc_new w (.cells #[.slice A k c, .slice A2 k2 c2] 24)
  have hb : Below w.heap.size w (w.alloc (.cells #[.slice A k c, .slice A2 k2 c2] 24)) := (Below.refl _ _).alloc (Nat.le_refl _) _
  refine (concat_any w.heap.size k c k2 c2 A A2 bs cs _ (cell_of_row _ _ 0 _ _ _ hn) (cell_of_row _ _ 1 _ _ _ hn) hk hk2 ((hA.below hb (Nat.le_refl _)).more hb.size) ((hA2.below hb (Nat.le_refl _)).more hb.size) hb1 hb2).mono ?_
  rintro e w' ⟨A3, m, c3, HM, rfl, hmc, hcm, hL, hbl, hb3⟩
  exact ⟨A3, m, c3, HM, rfl, hmc, hcm, hL, fun ad q => Nat.le_trans hb.size (hbl ad q), hb.trans (hb3.mono hb.size)⟩

set_option maxRecDepth 100000 in
set_option maxHeartbeats 3200000 in
theorem put_no (A : Option Addr) (K C : Nat) (k n l s r a m c v p : Int) (bs : List Nat) (w : World) (hK : K = bs.length) (hA : Lies w w.heap.size A (bs.map bv)) (hl : K ≤ 1000000) (hr : ¬ right ⟨k, n, l, s, r, a, m, c, v, p⟩) :
    Calls Try.prog 11 #[.slice A K C, .agg #[.int .i64 k, .int .i64 n, .int .i64 l, .int .i64 s, .int .i64 r, .int .i64 a, .int .i64 m, .int .i64 c, .int .i64 v, .int .i64 p]] w (NewL w bs) := by
  have HK := Lib.hid hK
  have HR := Lib.hid hr
  clear hK hr
  go_enter Try.func11, Try.ntmps11
  go_wp2_with fail
  refine (right_any k n l s r a m c v p _ false ⟨fun q => (nomatch q), fun q => absurd q HR.out⟩).mono ?_
  rintro e w2 ⟨rfl, hb2⟩
  have b1 : Below w.heap.size w (w.alloc (.cells #[.int .i64 k, .int .i64 n, .int .i64 l, .int .i64 s, .int .i64 r, .int .i64 a, .int .i64 m, .int .i64 c, .int .i64 v, .int .i64 p] 27)) := (Below.refl _ _).alloc (Nat.le_refl _) _
  have b2 : Below w.heap.size w w2 := b1.trans (hb2.mono (by simp))
  have LA := hA.below b2 (Nat.le_refl _)
  clear hb2 b1
  go_wp2_with fail
  refine (tail_any A none K C 0 0 bs [] w2 HK.out rfl (LA.more b2.size) (Lies.nil _ _ _) (by omega) (by omega)).mono ?_
  rintro e w3 h3
  obtain ⟨A3, m, c3, HM, rfl, hmc, hcm, hL, hbl, hb3⟩ := h3
  go_wp2_with fail
  go_ret
  exact ⟨A3, m, c3, by rw [List.append_nil] at HM; exact HM, rfl, hmc, hcm, by rw [List.append_nil] at hL; exact hL, fun ad q => Nat.le_trans b2.size (hbl ad q), b2.trans (hb3.mono b2.size)⟩

end Go.Proofs.Ytkfhgdnlieaedaa.W
