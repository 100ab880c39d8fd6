/- Contracts of greenhouselaw03.Bytes and greenhouselaw03.one; bytes as a string. -/
import Derived.Test.YtkfhgdnlieaedaaWireF
import Derived.Deep.LoopGhost
import Derived.Laws.BytesArg
namespace Go.Proofs.Ytkfhgdnlieaedaa.W
open Go.RowKit

/-- So many bytes of a number were told; the last is d, and m is what is left. -/
def told (n : Nat) (pre : List Nat) (d m : Nat) : Prop := d < 128 ∧ enc n = pre ++ (if m = 0 then [d] else (d + 128) :: enc m)
theorem told_start (n : Nat) : told n [] (n % 128) (n / 128) := by
  refine ⟨by omega, ?_⟩
  by_cases h : n < 128
  · rw [enc_small h, if_pos (by omega), show n % 128 = n by omega]; rfl
  · rw [enc_big (by omega), if_neg (by omega)]; rfl
theorem told_next {n : Nat} {pre : List Nat} {d m : Nat} (h : told n pre d m) (hm : m ≠ 0) : told n (pre ++ [d + 128]) (m % 128) (m / 128) := by
  refine ⟨by omega, ?_⟩
  have e := h.2
  rw [if_neg hm] at e
  have t := (told_start m).2
  rw [e, t]; simp
theorem told_len {n : Nat} {pre : List Nat} {d m : Nat} (h : told n pre d m) (hn : n < 18446744073709551616) : pre.length ≤ 9 := by
  have e := enc_ten hn
  rw [h.2] at e
  by_cases hm : m = 0
  · simp [hm] at e; omega
  · simp [hm] at e; omega

theorem set_last {pre : List Nat} {d : Nat} : ((pre ++ [d]).map bv).set pre.length (.int .u8 ((d : Int) + 128)) = (pre ++ [d + 128]).map bv := by simp [bv]

theorem bytes_end {w w' : World} {n g cap d : Nat} {pre : List Nat} (HT : Hid (told n pre d 0)) (own : w'.ownsRow w.heap.size 5 1 (.slice (some ⟨g, 0, none⟩) (pre.length + 1) cap) (pre.length + 1) ((pre ++ [d]).map bv)) (hb : Below w.heap.size w w') :
    NewB w (enc n) (.returned (.slice (some ⟨g, 0, none⟩) (pre.length + 1) cap)) w' := by
  have e := HT.out.2
  rw [if_pos rfl] at e
  exact ⟨g, cap, pre.length + 1, show _ = _ by rw [e]; simp, rfl, by rw [e]; exact own, hb⟩

theorem own_new {w : World} {u : Value} {e : TypeId} : (w.alloc (.cells #[u] e)).ownsRow w.heap.size e 1 (.slice (some ⟨w.heap.size, 0, none⟩) 1 1) 1 [u] := 
  ⟨rfl, Or.inr ⟨_, 1, #[u], rfl, Nat.le_refl _, heap_alloc_new _ _, by omega, by decide, rfl, rfl⟩⟩

set_option maxRecDepth 100000 in
set_option maxHeartbeats 800000 in
theorem bytes_any (n : Nat) (w : World) (hn : n < 18446744073709551616) : Calls Try.prog 21 #[.int .u64 (n : Int)] w (NewB w (enc n)) := by
  obtain ⟨i0, hi, hz0, hz1, hz2⟩ := info_parts infoB
  have hn1 : (n : Int) ≤ 18446744073709551615 := by omega
  have HN := Lib.hid hn
  clear hn
  go_enter Try.func21, Try.ntmps21
  go_wp2_with fail
  go_loopg [0, 3] n (fun gk vn vo wr => ∃ (m d : Nat) (pre : List Nat) (g cap : Nat), vn = .int .u64 (m : Int) ∧ vo = .slice (some ⟨g, 0, none⟩) (pre.length + 1) cap ∧ m ≤ gk ∧ m ≤ n ∧ Hid (told n pre d m) ∧
      wr.ownsRow w.heap.size 5 1 (.slice (some ⟨g, 0, none⟩) (pre.length + 1) cap) (pre.length + 1) ((pre ++ [d]).map bv) ∧ Below w.heap.size w wr)
  case atStart =>
    refine ⟨n / 128, n % 128, [], w.heap.size, 1, by go_num, rfl, by omega, by omega, told_start n, ?_, (Below.refl _ _).alloc (Nat.le_refl _) _⟩
    exact own_new
  case round =>
    obtain ⟨m, d, pre, g, cap, rfl, rfl, hmk, hmn, HT, hown, hbel⟩ := hrel
    have hpl : pre.length ≤ 9 := told_len HT.out HN.out
    have hd : d < 128 := HT.out.1
    by_cases h0 : m = 0
    · subst h0
      go_wp2_with fail
      go_ret
      exact bytes_end HT hown hbel
    · have hc := own_cells hown pre.length d (by simp)
      have hf := hown.frozenAt pre.length
      have hst := hown.stored pre.length (.int .u8 ((d : Int) + 128))
      rw [set_last] at hst
      have HS := Lib.hid hst
      have hcap := (own_cap hown).1
      clear hst
      go_wp2_with (at_builtin; (refine wpList_app1 rfl (.tmp 22) (.tmp 26) 24 rfl w.heap.size 5 i0 (.int .u8 0) 1 Try.underlying24 hi hz0 hz1 hz2 rfl (.slice (some ⟨g, 0, none⟩) (pre.length + 1) cap) (pre.length + 1) ((pre ++ [d + 128]).map bv) rfl HS.out.1 (.int .u8 ((m : Int) % 128)) _ rfl _ rfl (by simp) (by omega) (by omega) (by simpa using hbel.size) ?_); intro g' cap' w' own' hg' _ _)
      go_roundg (m / 128)
      case measure => omega
      case rel =>
        have hgb := (own_cap hown).2.2
        have hb2 : Below w.heap.size w (wr.setCell ⟨g, pre.length, none⟩ (.int .u8 ((d : Int) + 128))) := hbel.setCell hgb _
        exact ⟨m / 128, m % 128, pre ++ [d + 128], g', cap', by go_num, by simp, by omega, by omega, told_next HT.out h0, by simpa [bv] using own', hb2.grown hg' hb2.size (fun j hj => by simp [Value.ownBlock] at hj; omega)⟩
theorem val_drop_le : ∀ (l : List Nat) (j : Nat), val (l.drop j) ≤ val l
  | l, 0 => by simp
  | [], j + 1 => by simp
  | c :: t, j + 1 => by
    have := val_drop_le t j
    rw [List.drop_succ_cons, val]; omega
theorem val_at {l : List Nat} {j x : Nat} (h : l[j]? = some x) : val (l.drop j) = x % 128 + 128 * val (l.drop (j + 1)) := by
  rw [drop_at h, val]
theorem n_zero (bs : List Nat) (a most : Nat) : nV (bs.drop a) 0 0 most = nV bs a 0 most ∧ a + nA (bs.drop a) 0 0 most = nA bs a 0 most ∧ nE (bs.drop a) 0 0 most = nE bs a 0 most := by
  unfold nV nA nE
  simp only [List.drop_zero, ne_eq, not_true_eq_false, if_false]
  refine ⟨trivial, ?_, trivial⟩
  split
  · rfl
  · split <;> omega
theorem ret_one {v k e : Nat} {p q r : Int} (h1 : p = (v : Int)) (h2 : q = (k : Int)) (h3 : r = (e : Int)) : Ending.returned (.tuple #[.int .u64 p, .int .i64 q, .int .i64 r]) = .returned (.tuple #[.int .u64 (v : Int), .int .i64 (k : Int), .int .i64 (e : Int)]) := by
  rw [h1, h2, h3]
end Go.Proofs.Ytkfhgdnlieaedaa.W
