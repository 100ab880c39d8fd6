/- Contracts of greenhouselaw03.Bytes and greenhouselaw03.one; bytes as a string. -/
import Derived.Test.YtlbpbjemaepnmaaWireF
import Derived.Deep.LoopGhost
import Derived.Laws.BytesArg
namespace Go.Proofs.Ytlbpbjemaepnmaa.W
open Go.RowKit

/-- So many bytes of a number were told; the last is d, and m is what is left. -/
def told (n : Nat) (pre : List Nat) (d m : Nat) : Prop := d < 128 ∧ enc n = pre ++ (if m = 0 then [d] else (d + 128) :: enc m)
theorem told_start (n : Nat) : told n [] (n % 128) (n / 128) := by
  refine ⟨by omega, ?_⟩
  by_cases h : n < 128
  · rw [enc_small h, if_pos (by omega), show n % 128 = n by omega]; rfl
  · rw [enc_big (by omega), if_neg (by omega)]; rfl
theorem told_next {n : Nat} {pre : List Nat} {d m : Nat} (h : told n pre d m) (hm : m ≠ 0) : told n (pre ++ [d + 128]) (m % 128) (m / 128) := by
  refine ⟨by omega, ?_⟩
  have e := h.2
  rw [if_neg hm] at e
  have t := (told_start m).2
  rw [e, t]; simp
theorem told_len {n : Nat} {pre : List Nat} {d m : Nat} (h : told n pre d m) (hn : n < 18446744073709551616) : pre.length ≤ 9 := by
  have e := enc_ten hn
  rw [h.2] at e
  by_cases hm : m = 0
  · simp [hm] at e; omega
  · simp [hm] at e; omega

theorem set_last {pre : List Nat} {d : Nat} : ((pre ++ [d]).map bv).set pre.length (.int .u8 ((d : Int) + 128)) = (pre ++ [d + 128]).map bv := by simp [bv]

theorem bytes_end {w w' : World} {n g cap d : Nat} {pre : List Nat} (HT : Hid (told n pre d 0)) (own : w'.ownsRow w.heap.size 5 1 (.slice (some ⟨g, 0, none⟩) (pre.length + 1) cap) (pre.length + 1) ((pre ++ [d]).map bv)) (hb : Below w.heap.size w w') :
    NewB w (enc n) (.returned (.slice (some ⟨g, 0, none⟩) (pre.length + 1) cap)) w' := by
  have e := HT.out.2
  rw [if_pos rfl] at e
  exact ⟨g, cap, pre.length + 1, show _ = _ by rw [e]; simp, rfl, by rw [e]; exact own, hb⟩

theorem own_new {w : World} {u : Value} {e : TypeId} : (w.alloc (.cells #[u] e)).ownsRow w.heap.size e 1 (.slice (some ⟨w.heap.size, 0, none⟩) 1 1) 1 [u] := 
  ⟨rfl, Or.inr ⟨_, 1, #[u], rfl, Nat.le_refl _, heap_alloc_new _ _, by omega, by decide, rfl, rfl⟩⟩

set_option maxRecDepth 100000 in
set_option maxHeartbeats 800000 in
theorem bytes_any (n : Nat) (w : World) (hn : n < 18446744073709551616) : Calls Try.prog 12 #[.int .u64 (n : Int)] w (NewB w (enc n)) := by
  obtain ⟨i0, hi, hz0, hz1, hz2⟩ := info_parts infoB
  have hn1 : (n : Int) ≤ 18446744073709551615 := by omega
  have HN := Lib.hid hn
  clear hn
  go_enter Try.func12, Try.ntmps12
  go_wp2_with fail
  go_loopg [0, 3] n (fun gk vn vo wr => ∃ (m d : Nat) (pre : List Nat) (g cap : Nat), vn = .int .u64 (m : Int) ∧ vo = .slice (some ⟨g, 0, none⟩) (pre.length + 1) cap ∧ m ≤ gk ∧ m ≤ n ∧ Hid (told n pre d m) ∧
      wr.ownsRow w.heap.size 5 1 (.slice (some ⟨g, 0, none⟩) (pre.length + 1) cap) (pre.length + 1) ((pre ++ [d]).map bv) ∧ Below w.heap.size w wr)
  case atStart =>
    refine ⟨n / 128, n % 128, [], w.heap.size, 1, by go_num, rfl, by omega, by omega, told_start n, ?_, (Below.refl _ _).alloc (Nat.le_refl _) _⟩
    exact own_new
  case round =>
    obtain ⟨m, d, pre, g, cap, rfl, rfl, hmk, hmn, HT, hown, hbel⟩ := hrel
    have hpl : pre.length ≤ 9 := told_len HT.out HN.out
    have hd : d < 128 := HT.out.1
    by_cases h0 : m = 0
    · subst h0
      go_wp2_with fail
      go_ret
      exact bytes_end HT hown hbel
    · have hc := own_cells hown pre.length d (by simp)
      have hf := hown.frozenAt pre.length
      have hst := hown.stored pre.length (.int .u8 ((d : Int) + 128))
      rw [set_last] at hst
      have HS := Lib.hid hst
      have hcap := (own_cap hown).1
      clear hst
      go_wp2_with (at_builtin; (refine wpList_app1 rfl (.tmp 22) (.tmp 26) 23 rfl w.heap.size 5 i0 (.int .u8 0) 1 Try.underlying23 hi hz0 hz1 hz2 rfl (.slice (some ⟨g, 0, none⟩) (pre.length + 1) cap) (pre.length + 1) ((pre ++ [d + 128]).map bv) rfl HS.out.1 (.int .u8 ((m : Int) % 128)) _ rfl _ rfl (by simp) (by omega) (by omega) (by simpa using hbel.size) ?_); intro g' cap' w' own' hg' _ _)
      go_roundg (m / 128)
      case measure => omega
      case rel =>
        have hgb := (own_cap hown).2.2
        have hb2 : Below w.heap.size w (wr.setCell ⟨g, pre.length, none⟩ (.int .u8 ((d : Int) + 128))) := hbel.setCell hgb _
        exact ⟨m / 128, m % 128, pre ++ [d + 128], g', cap', by go_num, by simp, by omega, by omega, told_next HT.out h0, by simpa [bv] using own', hb2.grown hg' hb2.size (fun j hj => by simp [Value.ownBlock] at hj; omega)⟩
theorem val_drop_le : ∀ (l : List Nat) (j : Nat), val (l.drop j) ≤ val l
  | l, 0 => by simp
  | [], j + 1 => by simp
  | c :: t, j + 1 => by
    have := val_drop_le t j
    rw [List.drop_succ_cons, val]; omega
theorem val_at {l : List Nat} {j x : Nat} (h : l[j]? = some x) : val (l.drop j) = x % 128 + 128 * val (l.drop (j + 1)) := by
  rw [drop_at h, val]
theorem n_zero (bs : List Nat) (a most : Nat) : nV (bs.drop a) 0 0 most = nV bs a 0 most ∧ a + nA (bs.drop a) 0 0 most = nA bs a 0 most ∧ nE (bs.drop a) 0 0 most = nE bs a 0 most := by
  unfold nV nA nE
  simp only [List.drop_zero, ne_eq, not_true_eq_false, if_false]
  refine ⟨trivial, ?_, trivial⟩
  split
  · rfl
  · split <;> omega
theorem ret_one {v k e : Nat} {p q r : Int} (h1 : p = (v : Int)) (h2 : q = (k : Int)) (h3 : r = (e : Int)) : Ending.returned (.tuple #[.int .u64 p, .int .i64 q, .int .i64 r]) = .returned (.tuple #[.int .u64 (v : Int), .int .i64 (k : Int), .int .i64 (e : Int)]) := by
  rw [h1, h2, h3]

set_option maxRecDepth 100000 in
set_option maxHeartbeats 1600000 in
theorem one_any (A : Option Addr) (k c B most : Nat) (bs : List Nat) (w : World) (hk : k = bs.length) (hA : Lies w B A (bs.map bv)) (hb : ∀ x ∈ bs, x < 256) (hl : k ≤ 1000000000) :
    Calls Try.prog 18 #[.slice A k c, .int .u64 (most : Int)] w fun e w' =>
      e = .returned (.tuple #[.int .u64 (nV bs 0 0 most : Int), .int .i64 (nA bs 0 0 most : Int), .int .i64 (nE bs 0 0 most : Int)]) ∧ w = w' := by
  have HK := Lib.hid hk
  have HB := Lib.hid hb
  clear hk hb
  go_enter Try.func18, Try.ntmps18
  go_wp2
  go_loop [13] (fun vi => ∃ i : Nat, vi = .int .i64 (i : Int) ∧ i ≤ k ∧ Hid (goes bs i)) (fun vi => k - (intOf vi).toNat)
  case atStart => exact ⟨0, rfl, by omega, goes_zero _⟩
  case round =>
    obtain ⟨i, rfl, hik, HGo⟩ := hrel
    have h9 : i ≤ 9 := HGo.out.2.1
    by_cases hlt : i < k
    · have hlt' : i < (bs.map bv).length := by rw [List.length_map, ← HK.out]; exact hlt
      obtain ⟨ad, rfl, _, hc⟩ := hA.at_ hlt'
      obtain ⟨x, hx⟩ : ∃ x, bs[i]? = some x := ⟨_, List.getElem?_eq_getElem (by rw [← HK.out]; exact hlt)⟩
      have hx' : (bs.map bv)[i] = bv x := by
        have := List.getElem?_eq_some_iff.1 hx
        rw [List.getElem_map, this.2]
      rw [hx'] at hc
      have x256 : x < 256 := HB.out x (List.mem_of_getElem? hx)
      have HX := Lib.hid hx
      clear hx hx' hlt'
      by_cases hbad : (0 < i ∧ x = 0) ∨ (i = 9 ∧ 1 < x)
      · have E := Lib.hid (n_form (bs := bs) (a := 0) (most := most) (by rw [List.drop_zero]; exact fin_bad HGo.out HX.out hbad))
        go_wp2
        all_goals first
          | (exfalso; (try simp only [beq_eq_false_iff_ne] at *); omega)
          | (go_ret3; exact ⟨ret_one (by rw [E.out.1]; rfl) (by rw [E.out.2.1]; rfl) (by rw [E.out.2.2]; rfl), rfl⟩)
      · by_cases h128 : x < 128
        · have hf := fin_end HGo.out HX.out hbad h128
          have hlen : (bs.take (i + 1)).length = i + 1 := by rw [List.length_take, ← HK.out]; omega
          have hv : val (bs.take (i + 1)) < 18446744073709551616 := by
            have := (fin_ones bs 0 HB.out (by omega) (by omega)).2.1
            rw [hf] at this; simpa using this
          have hd : ∀ j, val ((bs.take (i + 1)).drop j) < 18446744073709551616 := fun j => Nat.lt_of_le_of_lt (val_drop_le _ j) hv
          have HF := Lib.hid hf
          have HD := Lib.hid hd
          have HLn := Lib.hid hlen
          clear hf hd hv hlen
          go_wp2
          all_goals first
            | (exfalso; (try simp only [beq_iff_eq, beq_eq_false_iff_ne] at *); omega)
            | skip
          all_goals
            go_loop [9, 10] (fun vn vk => ∃ j : Nat, j ≤ i + 1 ∧ vk = .int .i64 ((j : Int) - 1) ∧ vn = .int .u64 (val ((bs.take (i + 1)).drop j) : Int)) (fun _ vk => (intOf vk + 1).toNat)
            case atStart => exact ⟨i + 1, by omega, by go_num, by rw [List.drop_of_length_le (by rw [HLn.out]; omega)]; rfl⟩
            case round =>
              obtain ⟨j, hj, rfl, rfl⟩ := hrel
              rcases j with _ | j
              · have e0 : val ((bs.take (i + 1)).drop 0) = val (bs.take (i + 1)) := by rw [List.drop_zero]
                rw [e0]
                clear e0
                obtain ⟨v, hv⟩ : ∃ v, val (bs.take (i + 1)) = v := ⟨_, rfl⟩
                rw [hv]
                have ej : (((0 : Nat) : Int) - 1) = -1 := rfl
                rw [ej]
                clear ej
                have HV := Lib.hid hv
                clear hv
                by_cases hm : most < v
                · have E := Lib.hid (n_arg (bs := bs) (a := 0) (most := most) (by rw [List.drop_zero, HF.out]; omega) (by rw [List.drop_zero, HF.out, HV.out]; exact hm))
                  go_wp2
                  go_ret3
                  exact ⟨ret_one (by rw [E.out.1]; rfl) (by rw [E.out.2.1]; rfl) (by rw [E.out.2.2]; rfl), rfl⟩
                · have E := Lib.hid (n_ok (bs := bs) (a := 0) (most := most) (by rw [List.drop_zero, HF.out]; omega) (by rw [List.drop_zero, HF.out, HV.out]; omega))
                  go_wp2
                  go_ret3
                  exact ⟨ret_one (by rw [E.out.1, List.drop_zero, HF.out, HV.out]) (by rw [E.out.2.1, List.drop_zero, HF.out]; go_num) (by rw [E.out.2.2]; rfl), rfl⟩
              · obtain ⟨y, hy⟩ : ∃ y, bs[j]? = some y := ⟨_, List.getElem?_eq_getElem (by rw [← HK.out]; omega)⟩
                have hy2 : (bs.take (i + 1))[j]? = some y := by rw [List.getElem?_take, if_pos (by omega)]; exact hy
                have hcy : w.cell? (ad.add j) = some (bv y) := by
                  obtain ⟨ad', e', _, h'⟩ := hA j (bv y) (by rw [List.getElem?_map, hy]; rfl)
                  injection e' with e'
                  subst e'
                  exact h'
                have y256 : y < 256 := HB.out y (List.mem_of_getElem? hy)
                obtain ⟨v, hv⟩ : ∃ v, val ((bs.take (i + 1)).drop (j + 1)) = v := ⟨_, rfl⟩
                have hstep := val_at hy2
                have hbd := HD.out j
                rw [hstep, hv] at hbd
                rw [hv] at hstep ⊢
                have ej : (((j + 1 : Nat) : Int) - 1) = (j : Int) := by omega
                rw [ej]
                have hb1 : (v : Int) * 128 + (y : Int) % 128 ≤ 18446744073709551615 := by omega
                have HS := Lib.hid hstep
                clear hstep hv hbd ej hy hy2
                go_wp2
                go_round
                case rel => exact ⟨j, by omega, by go_num, by rw [HS.out]; go_num⟩
                case measure => simp [intOf]
        · go_wp2
          all_goals first
            | (exfalso; (try simp only [beq_eq_false_iff_ne] at *); omega)
            | (go_round
               case rel => exact ⟨i + 1, by go_num, by omega, goes_succ HGo.out HX.out (by omega) (by omega)⟩
               case measure => simp [intOf]; omega)
    · go_wp2
      go_ret3
      have e : i = bs.length := by rw [← HK.out]; omega
      have E := n_form (bs := bs) (a := 0) (most := most) (by rw [List.drop_zero]; exact fin_none (by rw [← e]; exact HGo.out))
      exact ⟨ret_one (by rw [E.1]; rfl) (by rw [E.2.1]; rfl) (by rw [E.2.2]; rfl), rfl⟩
end Go.Proofs.Ytlbpbjemaepnmaa.W
