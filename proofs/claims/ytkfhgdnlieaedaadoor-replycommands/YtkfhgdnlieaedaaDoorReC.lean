/- Contracts of reply.whyOf and reply.guess. -/
import Derived.Test.YtkfhgdnlieaedaaDoorReB
namespace Go.Proofs.YtkfhgdnlieaedaaDoor.W
open Go.RowKit

set_option maxRecDepth 100000 in
set_option maxHeartbeats 1600000 in
theorem whyOf_any (r : List UInt8) (w : World) : Calls Tryd.prog 22 #[.string (bst r)] w fun e w' => e = .returned (.int .i64 (yOf r)) ∧ w = w' := by
  go_enter Tryd.func22, Tryd.ntmps22
  go_wp2_with fail
  go_loop [3] (fun vi => ∃ i : Nat, vi = .int .i64 ((i : Int) + 1) ∧ i ≤ 4 ∧ Hid (∀ j : Nat, j < i → wY ((j : Int) + 1) ≠ r)) (fun vi => 5 - (intOf vi).toNat)
  case atStart => exact ⟨0, rfl, by omega, Lib.hid (fun j q => absurd q (by omega))⟩
  case round =>
    obtain ⟨i, rfl, hik, HI⟩ := hrel
    by_cases hi : i < 4
    · have hle : (i : Int) + 1 ≤ 4 := by omega
      go_wp2_with fail
      refine (why_any ((i : Int) + 1) w).mono ?_
      rintro e w2 ⟨rfl, rfl⟩
      by_cases he : wY ((i : Int) + 1) = r
      · have hv : yOf r = (i : Int) + 1 := by
          rw [← he]
          exact yOf_w (by omega) (by omega)
        have HV := Lib.hid hv
        have hb : ((bst (wY ((i : Int) + 1))).toList == (bst r).toList) = true := by rw [sv_eq]; simpa using he
        clear he hv
        go_wp2_with fail
        go_ret
        exact ⟨by rw [HV.out]; rfl, rfl⟩
      · have hb : ((bst (wY ((i : Int) + 1))).toList == (bst r).toList) = false := by rw [sv_eq]; simpa using he
        have HE := Lib.hid he
        clear he
        go_wp2_with fail
        go_round
        case rel => exact ⟨i + 1, by go_num, by omega, Lib.hid (fun j hj => by
          by_cases q : j = i
          · rw [q]; exact HE.out
          · exact HI.out j (by omega))⟩
        case measure => simp [intOf]; omega
    · obtain rfl : i = 4 := by omega
      have hv : yOf r = 0 := by
        have h := HI.out
        have h1 : wY 1 ≠ r := h 0 (by omega)
        have h2 : wY 2 ≠ r := h 1 (by omega)
        have h3 : wY 3 ≠ r := h 2 (by omega)
        have h4 : wY 4 ≠ r := h 3 (by omega)
        unfold yOf
        rw [if_neg h1, if_neg h2, if_neg h3, if_neg h4]
      have HV := Lib.hid hv
      clear hik hi hv
      go_wp2_with fail
      go_ret
      exact ⟨by rw [HV.out]; rfl, rfl⟩

abbrev av (a : An) : Value := .agg #[.int .i64 a.k, .int .i64 a.b, .int .i64 a.y, .int .i64 a.e]
theorem sv_lit (a b : List UInt8) : ((bst a).toList == b) = decide (a = b) := by
  rw [Lib.toList_data, bst_list]
  by_cases h : a = b
  · subst h; simp
  · simp [h]
theorem sizeA : (Tryd.prog.info? 26).map (·.size) = some 4 := by kernel_rfl
theorem wpList_store_an {w : World} {ops : Array Oper} {rest : List Oper} {o : Oper} {act : Act} {Q : Exit → Act → World → Prop} (hgd : o.guard = none) (x z : Operand) (ho : o.op = .store 26 x z)
    (g : Nat) (k b y e : Int) (hx : act.eval x = .pointer (some ⟨g, 0, none⟩)) (hy : act.eval z = .agg #[.int .i64 k, .int .i64 b, .int .i64 y, .int .i64 e]) (k0 b0 y0 e0 : Int)
    (HG : Hid (w.heap[g]? = some (.cells #[.int .i64 k0, .int .i64 b0, .int .i64 y0, .int .i64 e0] 26 (0, 0))))
    (hn : ∀ w', Hid (w'.heap[g]? = some (.cells #[.int .i64 k, .int .i64 b, .int .i64 y, .int .i64 e] 26 (0, 0))) → w.grownBy w' (some g) → wpList Tryd.prog ops Q rest (act.put o.dst undef) w') : wpList Tryd.prog ops Q (o :: rest) act w := by
  refine wpList_store_row hgd _ x z ho g _ hx hy _ _ HG.out sizeA rfl (by simp [Value.oneCell']) ?_
  exact hn _ (Lib.hid (show _ = _ from setRow_heap w g _ _ _ _ HG.out)) ⟨rfl, rfl, rfl, by simp [World.setRow], fun k _ hk => setRow_other w g k _ (by intro e; exact hk (by rw [e]))⟩
theorem ret_an {g : Nat} {k b y e : Int} {w : World} {fn : Func} {t : Tmp} {tmps : Array Value} (hf : fn.results = #[.cell t 26]) (ht : tmps.getD t undef = .pointer (some ⟨g, 0, none⟩))
    (HG : Hid (w.heap[g]? = some (.cells #[.int .i64 k, .int .i64 b, .int .i64 y, .int .i64 e] 26 (0, 0)))) : (results fn tmps).run Tryd.prog w = .ok (.agg #[.int .i64 k, .int .i64 b, .int .i64 y, .int .i64 e]) w :=
  results_cell_row hf tmps w g _ _ _ _ ht HG.out Tryd.underlying26 rfl sizeA
theorem done_row {w w1 w2 : World} (h : Below w.heap.size w w1) (hg : w1.grownBy w2 (some w.heap.size)) : Below w.heap.size w w2 := below_row h (Nat.le_refl _) hg h.size

set_option maxRecDepth 100000 in
set_option maxHeartbeats 1600000 in
theorem guess_any (l : List UInt8) (w : World) (hl : l.length ≤ 1000000000) (hG : Gl w) : Calls Tryd.prog 16 #[.string (bst l)] w fun e w' => e = .returned (av (gs l)) ∧ Below w.heap.size w w' := by
  have b0 : Below w.heap.size w (w.alloc (.cells #[.int .i64 0, .int .i64 0, .int .i64 0, .int .i64 0] 26)) := (Below.refl _ _).alloc (Nat.le_refl _) _
  have hN := heap_alloc_new w (.cells #[.int .i64 0, .int .i64 0, .int .i64 0, .int .i64 0] 26)
  have hrl : (Lib.cut l [32]).2.1.length ≤ 1000000000 := by
    unfold Lib.cut
    split
    · simp; omega
    · simp
  obtain ⟨u, hu⟩ : ∃ u, (Lib.cut l [32]).1 = u := ⟨_, rfl⟩
  obtain ⟨r, hr⟩ : ∃ r, (Lib.cut l [32]).2.1 = r := ⟨_, rfl⟩
  have hgs : gs l = gsw u r := by unfold gs; rw [hu, hr]
  rw [hr] at hrl
  have HU := Lib.hid hu
  have HR := Lib.hid hr
  have HGS := Lib.hid hgs
  have hG0 := hG.below b0
  clear hu hr hgs hG
  go_enter Tryd.func16, Tryd.ntmps16
  go_wp2_with fail
  generalize w.alloc (.cells #[.int .i64 0, .int .i64 0, .int .i64 0, .int .i64 0] 26) = w1 at b0 hN hG0 ⊢
  refine (cut_any l w1 hl).mono ?_
  rintro e w2 ⟨rfl, b2⟩
  rw [HU.out, HR.out]
  have hN2 := (Only.of_below (S := fun _ => False) b2).blk (fun q => q) hN
  have b02 : Below w.heap.size w w2 := b0.trans (b2.mono b0.size)
  have hG2 := hG0.below b2
  clear b0 hN hG0 b2
  by_cases h0 : u = refW
  · have hx : gsw u r = ⟨1, 0, 0, eOf r⟩ := by unfold gsw;  rw [if_pos h0]
    have HX := Lib.hid hx
    have g0 : ((bst u).toList == [114, 101, 102, 117, 115, 101, 100]) = true := by rw [sv_lit]; exact decide_eq_true h0
    clear hx h0
    go_wp2_with fail
    refine (errOf_any r w2).mono ?_
    rintro e w3 ⟨rfl, b3⟩
    have hN3 := Lib.hid ((Only.of_below (S := fun _ => False) b3).blk (fun q => q) hN2)
    have b03 : Below w.heap.size w w3 := b02.trans (b3.mono b02.size)
    obtain ⟨z, hz⟩ : ∃ z, eOf r = z := ⟨_, rfl⟩
    have HZ := Lib.hid hz
    rw [hz]
    clear hz
    go_wp2_with (with_reducible refine wpList_store_an rfl (.tmp 2) (.tmp 17) rfl w.heap.size 1 0 0 z rfl rfl 0 0 0 0 hN3 ?_; intro w4 HG4 hg4)
    refine bodyPost_ret (ret_an (fn := Tryd.f16) rfl rfl HG4) rfl ⟨?_, done_row b03 hg4⟩
    rw [HGS.out, HX.out, HZ.out]
  by_cases h1 : u = warmW
  · have hx : gsw u r = ⟨2, numF r, 0, 0⟩ := by unfold gsw; rw [if_neg h0]; rw [if_pos h1]
    have HX := Lib.hid hx
    have g0 : ((bst u).toList == [114, 101, 102, 117, 115, 101, 100]) = false := by rw [sv_lit]; exact decide_eq_false h0
    have g1 : ((bst u).toList == [119, 97, 114, 109]) = true := by rw [sv_lit]; exact decide_eq_true h1
    clear hx h0 h1
    go_wp2_with fail
    refine (number_any r w2 (by omega) hG2).mono ?_
    rintro e w3 ⟨rfl, b3⟩
    have hN3 := Lib.hid ((Only.of_below (S := fun _ => False) b3).blk (fun q => q) hN2)
    have b03 : Below w.heap.size w w3 := b02.trans (b3.mono b02.size)
    obtain ⟨z, hz⟩ : ∃ z, numF r = z := ⟨_, rfl⟩
    have HZ := Lib.hid hz
    rw [hz]
    clear hz
    go_wp2_with (with_reducible refine wpList_store_an rfl (.tmp 2) (.tmp 22) rfl w.heap.size 2 z 0 0 rfl rfl 0 0 0 0 hN3 ?_; intro w4 HG4 hg4)
    refine bodyPost_ret (ret_an (fn := Tryd.f16) rfl rfl HG4) rfl ⟨?_, done_row b03 hg4⟩
    rw [HGS.out, HX.out, HZ.out]
  by_cases h2 : u = coldW
  · have hx : gsw u r = ⟨3, numF r, 0, 0⟩ := by unfold gsw; rw [if_neg h0]; rw [if_neg h1]; rw [if_pos h2]
    have HX := Lib.hid hx
    have g0 : ((bst u).toList == [114, 101, 102, 117, 115, 101, 100]) = false := by rw [sv_lit]; exact decide_eq_false h0
    have g1 : ((bst u).toList == [119, 97, 114, 109]) = false := by rw [sv_lit]; exact decide_eq_false h1
    have g2 : ((bst u).toList == [99, 111, 108, 100]) = true := by rw [sv_lit]; exact decide_eq_true h2
    clear hx h0 h1 h2
    go_wp2_with fail
    refine (number_any r w2 (by omega) hG2).mono ?_
    rintro e w3 ⟨rfl, b3⟩
    have hN3 := Lib.hid ((Only.of_below (S := fun _ => False) b3).blk (fun q => q) hN2)
    have b03 : Below w.heap.size w w3 := b02.trans (b3.mono b02.size)
    obtain ⟨z, hz⟩ : ∃ z, numF r = z := ⟨_, rfl⟩
    have HZ := Lib.hid hz
    rw [hz]
    clear hz
    go_wp2_with (with_reducible refine wpList_store_an rfl (.tmp 2) (.tmp 27) rfl w.heap.size 3 z 0 0 rfl rfl 0 0 0 0 hN3 ?_; intro w4 HG4 hg4)
    refine bodyPost_ret (ret_an (fn := Tryd.f16) rfl rfl HG4) rfl ⟨?_, done_row b03 hg4⟩
    rw [HGS.out, HX.out, HZ.out]
  by_cases h3 : u = thrW
  · have hx : gsw u r = ⟨4, 0, yOf r, 0⟩ := by unfold gsw; rw [if_neg h0]; rw [if_neg h1]; rw [if_neg h2]; rw [if_pos h3]
    have HX := Lib.hid hx
    have g0 : ((bst u).toList == [114, 101, 102, 117, 115, 101, 100]) = false := by rw [sv_lit]; exact decide_eq_false h0
    have g1 : ((bst u).toList == [119, 97, 114, 109]) = false := by rw [sv_lit]; exact decide_eq_false h1
    have g2 : ((bst u).toList == [99, 111, 108, 100]) = false := by rw [sv_lit]; exact decide_eq_false h2
    have g3 : ((bst u).toList == [116, 104, 114, 111, 116, 116, 108, 101, 100]) = true := by rw [sv_lit]; exact decide_eq_true h3
    clear hx h0 h1 h2 h3
    go_wp2_with fail
    refine (whyOf_any r w2).mono ?_
    rintro e w3 ⟨rfl, rfl⟩
    have hN3 := Lib.hid hN2
    have b03 := b02
    obtain ⟨z, hz⟩ : ∃ z, yOf r = z := ⟨_, rfl⟩
    have HZ := Lib.hid hz
    rw [hz]
    clear hz
    go_wp2_with (with_reducible refine wpList_store_an rfl (.tmp 2) (.tmp 32) rfl w.heap.size 4 0 z 0 rfl rfl 0 0 0 0 hN3 ?_; intro w4 HG4 hg4)
    refine bodyPost_ret (ret_an (fn := Tryd.f16) rfl rfl HG4) rfl ⟨?_, done_row b03 hg4⟩
    rw [HGS.out, HX.out, HZ.out]
  have hx : gsw u r = ⟨0, 0, 0, 0⟩ := by unfold gsw; rw [if_neg h0, if_neg h1, if_neg h2, if_neg h3]; rfl
  have HX := Lib.hid hx
  have g0 : ((bst u).toList == [114, 101, 102, 117, 115, 101, 100]) = false := by rw [sv_lit]; exact decide_eq_false h0
  have g1 : ((bst u).toList == [119, 97, 114, 109]) = false := by rw [sv_lit]; exact decide_eq_false h1
  have g2 : ((bst u).toList == [99, 111, 108, 100]) = false := by rw [sv_lit]; exact decide_eq_false h2
  have g3 : ((bst u).toList == [116, 104, 114, 111, 116, 116, 108, 101, 100]) = false := by rw [sv_lit]; exact decide_eq_false h3
  clear hx h0 h1 h2 h3
  have hN3 := Lib.hid hN2
  go_wp2_with (with_reducible refine wpList_store_an rfl (.tmp 2) (.tmp 33) rfl w.heap.size 0 0 0 0 rfl rfl 0 0 0 0 hN3 ?_; intro w4 HG4 hg4)
  refine bodyPost_ret (ret_an (fn := Tryd.f16) rfl rfl HG4) rfl ⟨?_, done_row b02 hg4⟩
  rw [HGS.out, HX.out]

end Go.Proofs.YtkfhgdnlieaedaaDoor.W
