/- A contract of a command's String. Made by mk_ren.py. -/
import Derived.Test.YtkfhgdnlieaedaaDoorReL
import Derived.Test.YtkfhgdnlieaedaaDoorReE
import Derived.Test.YtkfhgdnlieaedaaDoorReF
import Derived.Deep.RegionHeld3
import Derived.Lib.Join
namespace Go.Proofs.YtkfhgdnlieaedaaDoor.W
open Go.RowKit

def killW : List UInt8 := [107, 105, 108, 108]
def bootW : List UInt8 := [98, 111, 111, 116]
/-- The words of a command. -/
def cw (p : Bool) (a b c : Int) : List UInt8 := (if p then bootW else killW) ++ 32 :: (Lib.itoa a ++ 32 :: (Lib.itoa b ++ 32 :: Lib.itoa c))
theorem join_4 (a b c d : List UInt8) : Lib.join [a, b, c, d] [32] = a ++ 32 :: (b ++ 32 :: (c ++ 32 :: d)) := by
  rw [Lib.join_cons]; simp [Lib.joinTail]
theorem join4 (a b c d : List UInt8) (ty : TypeId) (w : World) (ha : a.length ≤ 30) (hb : b.length ≤ 30) (hc : c.length ≤ 30) (hd : d.length ≤ 30) :
    Calls Tryd.prog 18 #[.slice (some ⟨w.heap.size, 0, none⟩) 4 4, .string ⟨#[32]⟩] (w.alloc (.cells #[sv a, sv b, sv c, sv d] ty)) fun x w' => x = .returned (sv (a ++ 32 :: (b ++ 32 :: (c ++ 32 :: d)))) ∧ Below (w.alloc (.cells #[sv a, sv b, sv c, sv d] ty)).heap.size (w.alloc (.cells #[sv a, sv b, sv c, sv d] ty)) w' := by
  have hm : ([bst a, bst b, bst c, bst d].map (·.data.toList)) = [a, b, c, d] := rfl
  have hN := heap_alloc_new w (.cells #[sv a, sv b, sv c, sv d] ty)
  have h := Tryd.strings_Join w.heap.size 0 4 [bst a, bst b, bst c, bst d] ⟨#[32]⟩ (w.alloc (.cells #[sv a, sv b, sv c, sv d] ty))
    (fun j x hx => by
      have hj : j < 4 := by
        rcases Nat.lt_or_ge j 4 with q | q
        · exact q
        · rw [List.getElem?_eq_none (by simpa using q)] at hx; cases hx
      rw [Nat.zero_add]
      have : j = 0 ∨ j = 1 ∨ j = 2 ∨ j = 3 := by omega
      rcases this with rfl | rfl | rfl | rfl <;> (simp at hx; subst hx)
      · exact cell_of_row _ _ 0 _ _ _ hN
      · exact cell_of_row _ _ 1 _ _ _ hN
      · exact cell_of_row _ _ 2 _ _ _ hN
      · exact cell_of_row _ _ 3 _ _ _ hN)
    (lt_of_blk hN) (by simp) (by simp) (by rw [hm]; show (Lib.join [a, b, c, d] [32]).length ≤ _; rw [join_4]; simp; omega)
  rw [hm] at h
  refine h.mono fun x w' q => ⟨?_, q.2⟩
  rw [q.1]
  show Ending.returned (sv (Lib.join [a, b, c, d] [32])) = _
  rw [join_4]
abbrev Cmd (g : Nat) (p : Bool) (a b c : Int) (w0 w : World) : Prop :=
  w.cell? ⟨g, 0, none⟩ = some (.bool p) ∧ w.cell? ⟨g, 1, none⟩ = some (.int .i64 a) ∧ w.cell? ⟨g, 2, none⟩ = some (.int .i64 b) ∧ w.cell? ⟨g, 3, none⟩ = some (.int .i64 c) ∧ Below w0.heap.size w0 w
theorem keep_cmd {g : Nat} {p : Bool} {a b c : Int} {w0 w1 w2 : World} (H : Cmd g p a b c w0 w1) (hb : Below w1.heap.size w1 w2) : Cmd g p a b c w0 w2 := by
  obtain ⟨h0, h1, h2, h3, h10⟩ := H
  have hl : g < w1.heap.size := cell_lt h0
  exact ⟨by rw [hb.cell hl]; exact h0, by rw [hb.cell hl]; exact h1, by rw [hb.cell hl]; exact h2, by rw [hb.cell hl]; exact h3, h10.trans (hb.mono h10.size)⟩
theorem keep_cmd2 {g : Nat} {p : Bool} {a b c : Int} {w0 w1 w2 : World} (hb : Below w1.heap.size w1 w2) (H : Cmd g p a b c w0 w1) : Cmd g p a b c w0 w2 := keep_cmd H hb
theorem keep_cmd3 {g : Nat} {p : Bool} {a b c : Int} {w0 w1 w2 : World} {o : Obj} (hb : Below (w1.alloc o).heap.size (w1.alloc o) w2) (H : Cmd g p a b c w0 w1) : Cmd g p a b c w0 w2 := keep_cmd (keep_cmd H ((Below.refl _ _).alloc (Nat.le_refl _) _)) hb
theorem cmd_cells {w : World} {g : Nat} {p : Bool} {a b c : Int} (h : w.heap[g]? = some (.cells #[.bool p, .int .i64 a, .int .i64 b, .int .i64 c] 36 (0, 0))) : Cmd g p a b c w w :=
  ⟨cell_of_row _ _ 0 _ _ _ h, cell_of_row _ _ 1 _ _ _ h, cell_of_row _ _ 2 _ _ _ h, cell_of_row _ _ 3 _ _ _ h, Below.refl _ _⟩
theorem cmd_below {g : Nat} {p : Bool} {a b c : Int} {w0 w1 : World} (H : Cmd g p a b c w0 w1) : Below w0.heap.size w0 w1 := H.2.2.2.2
set_option maxRecDepth 100000 in
set_option maxHeartbeats 1600000 in
theorem cmd_true (a b c : Int) (w : World) (hG : Gl w) (ha : -9223372036854775808 ≤ a ∧ a ≤ 9223372036854775807) (hb : -9223372036854775808 ≤ b ∧ b ≤ 9223372036854775807) (hc : -9223372036854775808 ≤ c ∧ c ≤ 9223372036854775807) :
    Calls Tryd.prog 13 #[.agg #[.bool true, .int .i64 a, .int .i64 b, .int .i64 c]] w fun x w' => x = .returned (sv (cw true a b c)) ∧ Below w.heap.size w w' := by
  have c1 : Below w.heap.size w (w.alloc (.cells #[.bool true, .int .i64 a, .int .i64 b, .int .i64 c] 36)) := (Below.refl _ _).alloc (Nat.le_refl _) _
  have ten := cmd_cells (heap_alloc_new w (.cells #[.bool true, .int .i64 a, .int .i64 b, .int .i64 c] 36))
  have G1 := hG.below c1
  obtain ⟨la, hla⟩ : ∃ l, Lib.itoa a = l := ⟨_, rfl⟩
  obtain ⟨lb, hlb⟩ : ∃ l, Lib.itoa b = l := ⟨_, rfl⟩
  obtain ⟨lc, hlc⟩ : ∃ l, Lib.itoa c = l := ⟨_, rfl⟩
  have ea := itoa_len a ha.1 ha.2
  have eb := itoa_len b hb.1 hb.2
  have ec := itoa_len c hc.1 hc.2
  have hA := fun w hw => itoa_any a w ha.1 ha.2 hw
  have hB := fun w hw => itoa_any b w hb.1 hb.2 hw
  have hC := fun w hw => itoa_any c w hc.1 hc.2 hw
  have hcw : cw true a b c = bootW ++ 32 :: (la ++ 32 :: (lb ++ 32 :: lc)) := by rw [← hla, ← hlb, ← hlc]; rfl
  rw [hla] at ea hA
  rw [hlb] at eb hB
  rw [hlc] at ec hC
  have HJ := Lib.hid (show ∀ (ty : TypeId) (w : World), Calls Tryd.prog 18 #[.slice (some ⟨w.heap.size, 0, none⟩) 4 4, .string ⟨#[32]⟩] (w.alloc (.cells #[.string ⟨#[98, 111, 111, 116]⟩, sv la, sv lb, sv lc] ty)) fun x w' => x = .returned (sv (bootW ++ 32 :: (la ++ 32 :: (lb ++ 32 :: lc)))) ∧ Below (w.alloc (.cells #[.string ⟨#[98, 111, 111, 116]⟩, sv la, sv lb, sv lc] ty)).heap.size (w.alloc (.cells #[.string ⟨#[98, 111, 111, 116]⟩, sv la, sv lb, sv lc] ty)) w' from fun ty w => join4 bootW la lb lc ty w (by decide) ea eb ec)
  have HA := Lib.hid hA
  have HB := Lib.hid hB
  have HC := Lib.hid hC
  have HCW := Lib.hid hcw
  clear hla hlb hlc ea eb ec hA hB hC hcw ha hb hc
  go_enter Tryd.func13, Tryd.ntmps13
  go_wp2_with fail
  generalize w.alloc (.cells #[.bool true, .int .i64 a, .int .i64 b, .int .i64 c] 36) = w1 at c1 ten G1 ⊢
  have HS0 := Lib.hid (show Cmd w.heap.size true a b c w1 w1.drew from keep_cmd ten (below_drewN (Below.refl _ _) 1))
  obtain ⟨t0, t1, t2, t3, _⟩ := ten
  go_wp2_with fail
  go_region_held3 (fun w' => Cmd w.heap.size true a b c w1 w') (first | with_reducible exact HS0.out | with_reducible assumption | exact keep_cmd3 (by with_reducible assumption) (by with_reducible assumption) | exact keep_cmd2 (by with_reducible assumption) (by with_reducible assumption) | exact keep_cmd (by with_reducible assumption) ((Below.refl _ _).alloc (Nat.le_refl _) _))
    (first
      | (go_at_call 12; with_reducible refine (HA.out _ (G1.below (cmd_below (show Cmd w.heap.size true a b c w1 _ by with_reducible assumption)))).mono ?_; rintro x w' ⟨rfl, hbw⟩)
      | (go_at_call 12; with_reducible refine (HB.out _ (G1.below (cmd_below (show Cmd w.heap.size true a b c w1 _ by with_reducible assumption)))).mono ?_; rintro x w' ⟨rfl, hbw⟩)
      | (go_at_call 12; with_reducible refine (HC.out _ (G1.below (cmd_below (show Cmd w.heap.size true a b c w1 _ by with_reducible assumption)))).mono ?_; rintro x w' ⟨rfl, hbw⟩)
      | (go_at_call 18; refine (HJ.out _ _).mono ?_; rintro x w' ⟨rfl, hbw⟩))
  all_goals have b5 : Below w.heap.size w w' := c1.trans ((cmd_below (show Cmd w.heap.size true a b c w1 w' by with_reducible assumption)).mono c1.size)
  all_goals clear t0 t1 t2 t3 HS0
  all_goals go_wp2_with fail
  all_goals go_ret
  all_goals exact ⟨by rw [HCW.out]; rfl, b5⟩
set_option maxRecDepth 100000 in
set_option maxHeartbeats 1600000 in
theorem cmd_false (a b c : Int) (w : World) (hG : Gl w) (ha : -9223372036854775808 ≤ a ∧ a ≤ 9223372036854775807) (hb : -9223372036854775808 ≤ b ∧ b ≤ 9223372036854775807) (hc : -9223372036854775808 ≤ c ∧ c ≤ 9223372036854775807) :
    Calls Tryd.prog 13 #[.agg #[.bool false, .int .i64 a, .int .i64 b, .int .i64 c]] w fun x w' => x = .returned (sv (cw false a b c)) ∧ Below w.heap.size w w' := by
  have c1 : Below w.heap.size w (w.alloc (.cells #[.bool false, .int .i64 a, .int .i64 b, .int .i64 c] 36)) := (Below.refl _ _).alloc (Nat.le_refl _) _
  have ten := cmd_cells (heap_alloc_new w (.cells #[.bool false, .int .i64 a, .int .i64 b, .int .i64 c] 36))
  have G1 := hG.below c1
  obtain ⟨la, hla⟩ : ∃ l, Lib.itoa a = l := ⟨_, rfl⟩
  obtain ⟨lb, hlb⟩ : ∃ l, Lib.itoa b = l := ⟨_, rfl⟩
  obtain ⟨lc, hlc⟩ : ∃ l, Lib.itoa c = l := ⟨_, rfl⟩
  have ea := itoa_len a ha.1 ha.2
  have eb := itoa_len b hb.1 hb.2
  have ec := itoa_len c hc.1 hc.2
  have hA := fun w hw => itoa_any a w ha.1 ha.2 hw
  have hB := fun w hw => itoa_any b w hb.1 hb.2 hw
  have hC := fun w hw => itoa_any c w hc.1 hc.2 hw
  have hcw : cw false a b c = killW ++ 32 :: (la ++ 32 :: (lb ++ 32 :: lc)) := by rw [← hla, ← hlb, ← hlc]; rfl
  rw [hla] at ea hA
  rw [hlb] at eb hB
  rw [hlc] at ec hC
  have HJ := Lib.hid (show ∀ (ty : TypeId) (w : World), Calls Tryd.prog 18 #[.slice (some ⟨w.heap.size, 0, none⟩) 4 4, .string ⟨#[32]⟩] (w.alloc (.cells #[.string ⟨#[107, 105, 108, 108]⟩, sv la, sv lb, sv lc] ty)) fun x w' => x = .returned (sv (killW ++ 32 :: (la ++ 32 :: (lb ++ 32 :: lc)))) ∧ Below (w.alloc (.cells #[.string ⟨#[107, 105, 108, 108]⟩, sv la, sv lb, sv lc] ty)).heap.size (w.alloc (.cells #[.string ⟨#[107, 105, 108, 108]⟩, sv la, sv lb, sv lc] ty)) w' from fun ty w => join4 killW la lb lc ty w (by decide) ea eb ec)
  have HA := Lib.hid hA
  have HB := Lib.hid hB
  have HC := Lib.hid hC
  have HCW := Lib.hid hcw
  clear hla hlb hlc ea eb ec hA hB hC hcw ha hb hc
  go_enter Tryd.func13, Tryd.ntmps13
  go_wp2_with fail
  generalize w.alloc (.cells #[.bool false, .int .i64 a, .int .i64 b, .int .i64 c] 36) = w1 at c1 ten G1 ⊢
  have HS0 := Lib.hid (show Cmd w.heap.size false a b c w1 w1.drew from keep_cmd ten (below_drewN (Below.refl _ _) 1))
  obtain ⟨t0, t1, t2, t3, _⟩ := ten
  go_wp2_with fail
  go_region_held3 (fun w' => Cmd w.heap.size false a b c w1 w') (first | with_reducible exact HS0.out | with_reducible assumption | exact keep_cmd3 (by with_reducible assumption) (by with_reducible assumption) | exact keep_cmd2 (by with_reducible assumption) (by with_reducible assumption) | exact keep_cmd (by with_reducible assumption) ((Below.refl _ _).alloc (Nat.le_refl _) _))
    (first
      | (go_at_call 12; with_reducible refine (HA.out _ (G1.below (cmd_below (show Cmd w.heap.size false a b c w1 _ by with_reducible assumption)))).mono ?_; rintro x w' ⟨rfl, hbw⟩)
      | (go_at_call 12; with_reducible refine (HB.out _ (G1.below (cmd_below (show Cmd w.heap.size false a b c w1 _ by with_reducible assumption)))).mono ?_; rintro x w' ⟨rfl, hbw⟩)
      | (go_at_call 12; with_reducible refine (HC.out _ (G1.below (cmd_below (show Cmd w.heap.size false a b c w1 _ by with_reducible assumption)))).mono ?_; rintro x w' ⟨rfl, hbw⟩)
      | (go_at_call 18; refine (HJ.out _ _).mono ?_; rintro x w' ⟨rfl, hbw⟩))
  all_goals have b5 : Below w.heap.size w w' := c1.trans ((cmd_below (show Cmd w.heap.size false a b c w1 w' by with_reducible assumption)).mono c1.size)
  all_goals clear t0 t1 t2 t3 HS0
  all_goals go_wp2_with fail
  all_goals go_ret
  all_goals exact ⟨by rw [HCW.out]; rfl, b5⟩

theorem cmd_any (p : Bool) (a b c : Int) (w : World) (hG : Gl w) (ha : -9223372036854775808 ≤ a ∧ a ≤ 9223372036854775807) (hb : -9223372036854775808 ≤ b ∧ b ≤ 9223372036854775807) (hc : -9223372036854775808 ≤ c ∧ c ≤ 9223372036854775807) :
    Calls Tryd.prog 13 #[.agg #[.bool p, .int .i64 a, .int .i64 b, .int .i64 c]] w fun x w' => x = .returned (sv (cw p a b c)) ∧ Below w.heap.size w w' := by
  cases p
  · exact cmd_false a b c w hG ha hb hc
  · exact cmd_true a b c w hG ha hb hc

end Go.Proofs.YtkfhgdnlieaedaaDoor.W
