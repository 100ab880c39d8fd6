/- Contracts of wire.Put and of greenhouselaw03.Bytes: a number's bytes behind others. -/
import Derived.Test.YtkfhgdnlieaedaaRows
import Derived.Test.YtkfhgdnlieaedaaMem
import Derived.Test.YtkfhgdnlieaedaaWireM
namespace Go.Proofs.Ytkfhgdnlieaedaa.W
open Go.RowKit

abbrev bv (b : Nat) : Value := .int .u8 (b : Int)
theorem infoB : (Try.prog.info? 5).map (fun i => (i.zero, i.size, i.bytes)) = some (some (.int .u8 0), 1, 1) := by kernel_rfl
theorem ones_u8 (l : List Nat) : ∀ u ∈ l.map bv, u.oneCell' = true := by
  intro u hu
  obtain ⟨_, _, rfl⟩ := List.mem_map.1 hu
  rfl

/-- A new row of bytes is answered, and nothing that was there has turned. -/
def NewB (w : World) (bs : List Nat) (e : Ending) (w' : World) : Prop :=
  ∃ g cap m, Hid (m = bs.length) ∧ e = .returned (.slice (some ⟨g, 0, none⟩) m cap) ∧ w'.ownsRow w.heap.size 5 1 (.slice (some ⟨g, 0, none⟩) m cap) m (bs.map bv) ∧ Below w.heap.size w w'

theorem put_end {w w' : World} {bs pre : List Nat} {k n m g cap : Nat} (HK : Hid (k = bs.length)) (HE : Hid (enc n = pre ++ enc m)) (hlt : m < 128)
    (own : w'.ownsRow w.heap.size 5 1 (.slice (some ⟨g, 0, none⟩) (k + pre.length + 1) cap) (k + pre.length + 1) ((bs ++ pre).map bv ++ [.int .u8 (m : Int)])) (hb : Below w.heap.size w w') :
    NewB w (bs ++ enc n) (.returned (.slice (some ⟨g, 0, none⟩) (k + pre.length + 1) cap)) w' := by
  have e : bs ++ enc n = (bs ++ pre) ++ [m] := by rw [HE.out, enc_small hlt, List.append_assoc]
  have l : (bs ++ enc n).length = k + pre.length + 1 := by rw [e, HK.out]; simp; omega
  refine ⟨g, cap, _, l.symm, rfl, ?_, hb⟩
  rw [e, List.map_append]
  exact own
theorem put_round {pre : List Nat} {n m : Nat} (HE : Hid (enc n = pre ++ enc m)) (hlt : ¬ m < 128) : Hid (enc n = (pre ++ [m % 128 + 128]) ++ enc (m / 128)) := by
  show _ = _
  rw [HE.out, enc_big (by omega)]; simp

set_option maxRecDepth 100000 in
set_option maxHeartbeats 800000 in
theorem put_any (A : Option Addr) (k c n : Nat) (bs : List Nat) (w : World) (hk : k = bs.length) (hA : Lies w w.heap.size A (bs.map bv)) (hl : k ≤ 1000000000) (hn : n < 18446744073709551616) :
    Calls Try.prog 19 #[.slice A k c, .int .u64 (n : Int)] w (NewB w (bs ++ enc n)) := by
  obtain ⟨i0, hi, hz0, hz1, hz2⟩ := info_parts infoB
  have HK := Lib.hid hk
  clear hk
  have HN := Lib.hid (show enc n = [] ++ enc n from rfl)
  have hn1 : (n : Int) ≤ 18446744073709551615 := by omega
  have HU := Lib.hid hn
  clear hn
  go_enter Try.func19, Try.ntmps19
  go_wp2_with (first
    | (at_make; refine wpList_make_row rfl (.tmp 7) (.tmp 10) 24 rfl 5 i0 (.int .u8 0) Try.underlying24 hi hz0 hz1 rfl _ _ (k : Int) ((k : Int) + 10) k (k + 10) rfl rfl (by omega) (by omega) (by omega) (by rw [hz2]; omega) (by omega) ?_; intro w1 HG hg1 hs1; have HS := Lib.hid hs1; clear hs1)
    | (with_reducible refine wpList_copy_new rfl (.tmp 12) (.tmp 13) 24 24 rfl 5 Try.underlying24 i0 hi hz1 w.heap.size k (k + 10) A c (bs.map bv) (.int .u8 0) w.heap.size w.heap.size w rfl rfl HG (by simp [HK.out]) (by omega) (by omega) (hA.below (grown_below hg1) (Nat.le_refl _)) (ones_u8 _) (grown_below hg1) (Nat.le_refl _) ?_; intro w2 own2 hb2 hlt2; clear HG hg1 HS))
  go_simp
  go_loopw [1, 5] (fun vn vo wr => ∃ (m : Nat) (pre : List Nat) (g cap : Nat), vn = .int .u64 (m : Int) ∧ vo = .slice (some ⟨g, 0, none⟩) (k + pre.length) cap ∧ (m : Int) ≤ 18446744073709551615 ∧ Hid (enc n = pre ++ enc m) ∧
      wr.ownsRow w.heap.size 5 1 (.slice (some ⟨g, 0, none⟩) (k + pre.length) cap) (k + pre.length) ((bs ++ pre).map bv) ∧ Below w.heap.size w wr) (fun vn _ _ => (intOf vn).toNat)
  case atStart => exact ⟨n, [], w.heap.size, k + 10, rfl, rfl, hn1, HN, by simpa using own2, hb2⟩
  case round =>
    obtain ⟨m, pre, g, cap, rfl, rfl, hm, HE, hown, hbel⟩ := hrel
    have hpl : pre.length ≤ 10 := by have := enc_ten HU.out; rw [HE.out] at this; simp at this; omega
    by_cases hlt : m < 128
    · go_wp2_with (at_builtin; refine wpList_app1 rfl (.tmp 26) (.tmp 29) 24 rfl w.heap.size 5 i0 (.int .u8 0) 1 Try.underlying24 hi hz0 hz1 hz2 rfl (.slice (some ⟨g, 0, none⟩) (k + pre.length) cap) (k + pre.length) ((bs ++ pre).map bv) rfl hown (.int .u8 (m : Int)) _ rfl _ rfl rfl (by omega) (by omega) hbel.size ?_; intro g' cap' w' own' hg' _ _)
      go_ret
      exact put_end HK HE hlt own' (hbel.grown hg' hbel.size (fun j hj => (hown.lt j hj).1))
    · go_wp2_with (at_builtin; refine wpList_app1 rfl (.tmp 17) (.tmp 22) 24 rfl w.heap.size 5 i0 (.int .u8 0) 1 Try.underlying24 hi hz0 hz1 hz2 rfl (.slice (some ⟨g, 0, none⟩) (k + pre.length) cap) (k + pre.length) ((bs ++ pre).map bv) rfl hown (.int .u8 ((m : Int) % 128 + 128)) _ rfl _ rfl rfl (by omega) (by omega) hbel.size ?_; intro g' cap' w' own' hg' _ _)
      go_roundw
      case rel => exact ⟨m / 128, pre ++ [m % 128 + 128], g', cap', by go_num, by simp; omega, by omega, put_round HE hlt, by simpa [bv, Nat.add_assoc] using own', hbel.grown hg' hbel.size (fun j hj => (hown.lt j hj).1)⟩
      case measure => simp [intOf]; omega
end Go.Proofs.Ytkfhgdnlieaedaa.W
