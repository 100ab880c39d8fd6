/- Contracts of tally.Memo over strings, one goroutine. -/
import Derived.Test.YtkldoeillkfpbaaTalA
import Derived.Test.YtkldoeillkfpbaaItn
import Derived.Defers
import Derived.RegionTactic
import Derived.RegionCalls
import Derived.Deep.DeepCutAuto
import Derived.Deep.CutBlock
namespace Go.Proofs.Ytkldoeillkfpbaa.W
open Go.RowKit

/-- A Memo's cells: whether it is done, the lock, what makes it, it, whether it was made. -/
abbrev mcs (d l : Int) (f : Value) (i : ByteArray) (m : Int) : List Value := [.int .u32 d, .int .i32 l, .int .u32 0, f, .string i, .int .u32 m]
abbrev Me (w : World) (b : Nat) (d l : Int) (f : Value) (i : ByteArray) (m : Int) : Prop := w.heap[b]? = some (.cells (mcs d l f i m).toArray 96 (0, 0))
/-- A maker: its text, and how often it was asked. -/
abbrev Mk (w : World) (q : Nat) (s : ByteArray) (n : Int) : Prop := w.heap[q]? = some (.cells [Value.string s, .int .i64 n].toArray 65 (0, 0))
abbrev mf (q : Nat) : Value := .func (.func 27) #[.pointer (some ⟨q, 0, none⟩)] #[]
theorem run_eql_func_nil {P : Program} {t : TypeId} {ps rs : Array TypeId} {vd : Bool} (h : P.underlying t = some (.func ps rs vd)) (w : World) (fn : Fn) (fi ca : Array Value) : (binOp .eql t (.func fn fi ca) .nilFunc).run P w = .ok (.bool false) w := by
  simp only [binOp]
  simp [Op.equal, Op.maxDepth, run_equalIn_func_nil w 9999 h fn fi ca]
theorem hnot (x : Bool) (w : World) : (Op.unary .not (.bool x)).run Try.prog w = .ok (.bool (!x)) w := rfl

theorem m_disable (w : World) : (callFunc 64 #[]).run Try.prog w = .ok (.value (.tuple #[])) w := run_call_mark0 Try.func64 (by kernel_rfl) (by kernel_rfl) (by kernel_rfl) .disable (by kernel_rfl) w
theorem m_enable (w : World) : (callFunc 66 #[]).run Try.prog w = .ok (.value (.tuple #[])) w := run_call_mark0 Try.func66 (by kernel_rfl) (by kernel_rfl) (by kernel_rfl) .enable (by kernel_rfl) w
theorem m_acquire (a : Addr) (w : World) : (callFunc 67 #[.pointer (some a)]).run Try.prog w = .ok (.value (.tuple #[])) w := run_call_marked Try.func67 (by kernel_rfl) (by kernel_rfl) (by kernel_rfl) .acquire (by kernel_rfl) a w
theorem m_release (a : Addr) (w : World) : (callFunc 69 #[.pointer (some a)]).run Try.prog w = .ok (.value (.tuple #[])) w := run_call_marked Try.func69 (by kernel_rfl) (by kernel_rfl) (by kernel_rfl) .releaseMerge (by kernel_rfl) a w

theorem bst_any (a : Addr) (x : Value) (w : World) (hc : w.cell? a = some x) (hz : w.frozen? a = false) :
    Calls Try.prog 51 #[.pointer (some a), .bool true] w fun e w' => e = .returned (.tuple #[]) ∧ w' = w.drew.setCell a (.int .u32 1) := by
  have hc' : w.drew.cell? a = some x := by go_simp
  have hz' : w.drew.frozen? a = false := by go_simp
  have hst := run_call_store (P := Try.prog) Try.func58 (by kernel_rfl) (by kernel_rfl) (by kernel_rfl) (by kernel_rfl) (k := .u32) (y := 1) hc' hz'
  go_enter Try.func51, Try.ntmps51
  go_wp2
  go_region_calls
  all_goals (go_end0; exact ⟨rfl, rfl⟩)

theorem bst_deferred (a : Addr) (x : Value) (u : FrameMode) (w : World) (hc : w.cell? a = some x) (hz : w.frozen? a = false) :
    CallsD Try.prog 51 #[.pointer (some a), .bool true] u w fun e u' w' => u' = u ∧ (e = .returned (.tuple #[]) ∧ w' = w.drew.setCell a (.int .u32 1)) := by
  have hc' : w.drew.cell? a = some x := by go_simp
  have hz' : w.drew.frozen? a = false := by go_simp
  have hst := run_call_store (P := Try.prog) Try.func58 (by kernel_rfl) (by kernel_rfl) (by kernel_rfl) (by kernel_rfl) (k := .u32) (y := 1) hc' hz'
  go_enter_d Try.func51, Try.ntmps51
  go_wp2
  go_region_calls
  all_goals (go_end0; exact ⟨rfl, rfl⟩)

set_option maxRecDepth 100000 in
set_option maxHeartbeats 1600000 in
theorem unlock_deferred (a : Addr) (u : FrameMode) (w : World) (hc : w.cell? a = some (.int .i32 1)) (hz : w.frozen? a = false) :
    CallsD Try.prog 57 #[.pointer (some a)] u w fun e u' w' => u' = u ∧ (e = .returned (.tuple #[]) ∧ w' = w.setCell a (.int .i32 0)) := by
  have hd := m_disable
  have he := m_enable
  have hr := m_release
  have hadd := run_call_add (P := Try.prog) Try.func70 (by kernel_rfl) (by kernel_rfl) (by kernel_rfl) .i32 (by kernel_rfl) (y := -1) (s := 0) hc hz (by simp [go_sem]; rfl)
  have hcv := run_convert_to_unsafe (P := Try.prog) (src := 123) (dst := 127) Try.underlying123 Try.underlying127 (by kernel_rfl) hc
  go_enter_d Try.func57, Try.ntmps57
  go_wp2
  go_end0
  go_wp2
  go_end0
  exact ⟨rfl, rfl⟩

set_option maxRecDepth 100000 in
set_option maxHeartbeats 1600000 in
theorem lock_free (a : Addr) (w : World) (hc : w.cell? a = some (.int .i32 0)) (hz : w.frozen? a = false) :
    Calls Try.prog 56 #[.pointer (some a)] w fun e w' => e = .returned (.tuple #[]) ∧ w' = w.setCell a (.int .i32 1) := by
  have hd := m_disable
  have he := m_enable
  have ha := m_acquire
  have hcas := run_call_cas_hit (P := Try.prog) Try.func65 (by kernel_rfl) (by kernel_rfl) (by kernel_rfl) .i32 (by kernel_rfl) (y := 1) hc hz
  have hc' : (w.setCell a (.int .i32 1)).cell? a = some (.int .i32 1) := World.cell?_setCell_same w a _ hc
  have hcv := run_convert_to_unsafe (P := Try.prog) (src := 123) (dst := 127) Try.underlying123 Try.underlying127 (by kernel_rfl) hc'
  go_enter Try.func56, Try.ntmps56
  go_wp2
  first | go_end0 | (simp only [Exit.inBlock, Exit.then]; refine bodyPost_ret (results_none rfl _ _ _) rfl ?_) | refine bodyPost_ret (results_none rfl _ _ _) rfl ?_
  go_wp2
  go_end0
  exact ⟨rfl, rfl⟩

theorem bld_any (a : Addr) (d : Int) (w : World) (hc : w.cell? a = some (.int .u32 d)) (g : Bool) (hg : (d != 0) = g) :
    Calls Try.prog 41 #[.pointer (some a)] w fun e w' => e = .returned (.bool g) ∧ w = w' := by
  have hl := run_call_load (P := Try.prog) Try.func49 (by kernel_rfl) (by kernel_rfl) (by kernel_rfl) .u32 (by kernel_rfl) hc
  go_enter Try.func41, Try.ntmps41
  go_wp2
  go_ret
  exact ⟨rfl, rfl⟩

set_option maxRecDepth 100000 in
theorem text_any (q : Nat) (s : ByteArray) (n : Int) (w : World) (h : Mk w q s n) (h0 : 0 ≤ n) (h1 : n ≤ 100) :
    Calls Try.prog 27 #[.pointer (some ⟨q, 0, none⟩)] w fun e w' => e = .returned (.string s) ∧ Mk w' q s (n + 1) ∧ w.grownBy w' (some q) := by
  have c1 := cellL h 1 _ rfl
  have hg : Hid (w.heap[q]? = some (.cells [Value.string s, .int .i64 n].toArray 65 (0, 0))) := Lib.hid h
  clear h
  go_enter Try.func27, Try.ntmps27
  go_wp2_with (with_reducible refine wpList_store_in rfl 3 (.tmp 9) (.tmp 7) rfl (by kernel_rfl) q 1 rfl .i64 (n + 1) rfl _ _ hg.out (by simp) ?_; intro w2 HG2 hg2; have c0 := cellL HG2.out 0 (.string s) rfl; clear c1)
  go_ret
  exact ⟨rfl, HG2.out, hg2⟩

theorem sizeStr : (Try.prog.info? 9).map (·.size) = some 1 := by kernel_rfl
theorem sizeFn : (Try.prog.info? 68).map (·.size) = some 1 := by kernel_rfl
theorem cells_str (s : ByteArray) : (Value.string s).cells = #[.string s] := rfl
theorem one_str (s : ByteArray) : (Value.string s).oneCell' = true := rfl
theorem cells_nf : (Value.nilFunc).cells = #[.nilFunc] := rfl
theorem one_nf : (Value.nilFunc).oneCell' = true := rfl
theorem len6_4 (a b c d e f : Value) : 4 < [a, b, c, d, e, f].length := by simp
theorem len6_3 (a b c d e f : Value) : 3 < [a, b, c, d, e, f].length := by simp

set_option maxRecDepth 100000 in
set_option maxHeartbeats 1600000 in
theorem fill_any (b q : Nat) (l : Int) (s : ByteArray) (n : Int) (w : World) (h : Me w b 0 l (mf q) ByteArray.empty 0) (hq : Mk w q s n) (hbq : b ≠ q) (h0 : 0 ≤ n) (h1 : n ≤ 100) :
    Calls Try.prog 43 #[.pointer (some ⟨b, 0, none⟩)] w fun e w' => e = .returned (.tuple #[]) ∧ Me w' b 0 l .nilFunc s 1 ∧ Mk w' q s (n + 1) ∧ Only w w' (fun j => j = b ∨ j = q) := by
  have hnil := fun w fn fi ca => run_eql_func_nil (P := Try.prog) Try.underlying68 w fn fi ca
  have c3 := cellL h 3 _ rfl
  go_enter Try.func43, Try.ntmps43
  go_wp2_with fail
  refine (text_any q s n _ hq h0 h1).mono ?_
  rintro e w2 ⟨rfl, q2, g2⟩
  have o2 : Only w w2 (fun j => j = b ∨ j = q) := Only.grown g2 (Or.inl (Or.inr rfl))
  have m2 : Hid (w2.heap[b]? = some (.cells [Value.int .u32 0, .int .i32 l, .int .u32 0, mf q, .string ByteArray.empty, .int .u32 0].toArray 96 (0, 0))) := Lib.hid ((Only.grown (S := fun j => j = q) g2 (Or.inl rfl)).blk hbq h)
  clear c3 h hnil
  go_upto_region 2 with (with_reducible refine wpList_store_one rfl 9 (.tmp 14) (.tmp 12) rfl sizeStr b 4 rfl (.string s) rfl (cells_str _) (one_str _) _ _ m2.out (len6_4 _ _ _ _ _ _) ?_; intro w3 m3a g3)
  have m3 : Hid (w3.heap[b]? = some (.cells [Value.int .u32 0, .int .i32 l, .int .u32 0, mf q, .string s, .int .u32 0].toArray 96 (0, 0))) := m3a
  clear m3a
  go_upto_region 3 with (with_reducible refine wpList_store_one rfl 68 (.tmp 17) (.const .nilFunc) rfl sizeFn b 3 rfl .nilFunc rfl cells_nf one_nf _ _ m3.out (len6_3 _ _ _ _ _ _) ?_; intro w4 m4 g4)
  have o4 : Only w2 w4 (fun j => j = b) := (Only.grown (S := fun j => j = b) g3 (Or.inl rfl)).tr (Only.grown g4 (Or.inl rfl))
  have m5 : Me w4 b 0 l .nilFunc s 0 := m4.out
  have q4 := o4.blk (fun q => hbq q.symm) q2
  clear m2 m3 m4 g3 g4
  go_wp2_with fail
  refine (bst_any ⟨b, 5, none⟩ _ w4 (cellL m5 5 _ rfl) (frozen_of_row _ _ _ _ _ m5)).mono ?_
  rintro e w5 ⟨rfl, rfl⟩
  have m6 : Me (w4.drew.setCell ⟨b, 5, none⟩ (.int .u32 1)) b 0 l .nilFunc s 1 := set_rowL (w := w4.drew) (cs := mcs 0 l .nilFunc s 0) m5 5 _
  have g6 := grown_set w4 1 b 5 (.int .u32 1)
  have o6 : Only w4 (w4.drew.setCell ⟨b, 5, none⟩ (.int .u32 1)) (fun j => j = b) := Only.grown g6 (Or.inl rfl)
  have q6 := o6.blk (fun q => hbq q.symm) q4
  clear m5 g6
  generalize w4.drew.setCell ⟨b, 5, none⟩ (.int .u32 1) = w6 at m6 o6 q6 ⊢
  go_wp2_with fail
  go_end0
  exact ⟨rfl, m6, q6, o2.tr ((o4.tr o6).mono (fun _ q => Or.inl q))⟩

end Go.Proofs.Ytkldoeillkfpbaa.W
