/- The law HostFulls. -/
import Derived.Test.YthmmobhbakmbpaaHostF
import Derived.Test.YthmmobhbakmbpaaActs
import Derived.Deep.LoopGhost
import Derived.Deep.DeepCutAuto
import Derived.Deep.CutBlock
namespace Go.Proofs.Ythmmobhbakmbpaa.W
open Go.RowKit

theorem infoHo : (Try.prog.info? 3).map (fun i => (i.zero, i.size, i.bytes)) = some (some (.int .i64 0), 1, 8) := by kernel_rfl
/-- One host alone. -/
def oneH (s u : Nat) : Int → Option Ht := updZ noH 7 (some (false, s, u))
theorem oneH_at (s u : Nat) : oneH s u 7 = some (false, s, u) := updZ_same _ _ _
theorem oneH_put (s u u' : Nat) : updZ (oneH s u) 7 (some (false, s, u')) = oneH s u' := updZ_twice _ _ _ _
theorem oneH_le {s u : Nat} (h : Hb (oneH s u)) : 1 ≤ s ∧ s ≤ 4096 ∧ u ≤ s := by have := h 7 false s u (oneH_at s u); omega
/-- Sums of numbers that are not below 0. -/
def sL : List Int → Nat
  | [] => 0
  | x :: r => x.toNat + sL r
theorem sL_snoc : ∀ (l : List Int) (m : Int), sL (l ++ [m]) = sL l + m.toNat
  | [], m => by simp [sL]
  | x :: r, m => by rw [List.cons_append, sL, sL, sL_snoc r m]; omega
theorem sL_drop {l : List Int} {j : Nat} {x : Int} (h : l[j]? = some x) : sL (l.drop j) = x.toNat + sL (l.drop (j + 1)) := by
  rw [List.drop_eq_getElem_cons (List.getElem?_eq_some_iff.1 h).1, (List.getElem?_eq_some_iff.1 h).2]; rfl

set_option maxRecDepth 100000 in
set_option maxHeartbeats 6400000 in
theorem fulls_walk (x0 : Int) (a0 : Option Addr) (k cap : Nat) (xs : List Int) (hl : xs.length = k) (_hc : k ≤ cap) (w : World) (L : Lies w w.heap.size a0 (ints xs)) :
    Calls Try.prog 6 #[.int .i64 x0, .slice a0 k cap] w fun e w' => e = .returned (.bool true) ∧ Below w.heap.size w w' := by
  obtain ⟨i0, hi0, hz0, hz1, hz2⟩ := info_parts infoHo
  have HL := Lib.hid hl
  clear hl
  by_cases hk : 100 < k
  · have hki : decide ((100 : Int) < (k : Int)) = true := by simp; omega
    go_enter Try.func6, Try.ntmps6
    go_wp2_with fail
    refine (head13 _).mono ?_
    rintro e w1 ⟨rfl, b1⟩
    go_wp2_with fail
    go_ret
    exact ⟨rfl, b1⟩
  have hki : decide ((100 : Int) < (k : Int)) = false := by simp; omega
  have hkk := Lib.hid (show k ≤ 100 by omega)
  obtain ⟨p, hp, hp1⟩ := and_nat x0 4095 12 4096 (by decide) (by decide) (by decide)
  have hpI : (p : Int) < 4096 := by omega
  go_enter Try.func6, Try.ntmps6
  go_wp2_with fail
  refine (head13 _).mono ?_
  rintro e w0 ⟨rfl, b0⟩
  go_wp2_with fail
  clear hp hki hk
  generalize hA : 1 + (p : Int) = z
  have hza : 1 ≤ z := by omega
  have hzb : z ≤ 4096 := by omega
  clear hpI hp1 hA
  refine (h_new w0).mono ?_
  rintro e w1 ⟨rfl, h1, bb1⟩
  have b1 := b0.trans (bb1.mono b0.size)
  obtain ⟨l, hl⟩ : ∃ l, w0.heap.size = l := ⟨_, rfl⟩
  have hll : w.heap.size ≤ l := by rw [← hl]; exact b0.size
  rw [hl] at h1
  rw [hl]
  clear hl b0 bb1
  change Ho w1 l noH at h1
  go_wp2_with fail
  obtain ⟨e1, e2⟩ := add_ok (H := noH) (x := 7) (n := z) (by decide) hza hzb rfl
  refine (h_add l _ 7 z _ h1).mono ?_
  rw [e1, e2]
  rintro e w2 ⟨rfl, h2, g2⟩
  have b2 := below_row b1 hll g2 b1.size
  obtain ⟨Z, hZ⟩ : ∃ Z, z.toNat = Z := ⟨_, rfl⟩
  rw [hZ] at h2
  have hZI := Lib.hid (show (Z : Int) = z by omega)
  change Ho w2 l (oneH Z 0) at h2
  clear e1 e2 h1 b1 g2 hZ
  go_wp2_with fail
  go_loopg [6, 7, 28] k (fun gk v6 v7 vi wr => ∃ (i g cp n u : Nat) (ts : List Int), v6 = .slice (some ⟨g, 0, none⟩) n cp ∧ v7 = .int .i64 (u : Int) ∧ vi = .int .i64 (i : Int) ∧ i + gk = k ∧ ts.length = n ∧ n ≤ i ∧ sL ts = u ∧ (∀ x ∈ ts, 0 ≤ x) ∧ wr.ownsRow w.heap.size 3 1 (.slice (some ⟨g, 0, none⟩) n cp) n (ints ts) ∧ Ho wr l (oneH Z u) ∧ g ≠ l ∧ Below w.heap.size w wr)
  case atStart =>
    refine ⟨0, w2.heap.size, 0, 0, 0, [], rfl, rfl, rfl, by omega, rfl, Nat.le_refl _, rfl, (fun x hx => by cases hx), own_empty b2.size, ?_, by have := h2.lt; omega, b2.alloc b2.size _⟩
    exact h2.keep ((Below.refl _ _).alloc (Nat.le_refl _) _) h2.lt
  case round =>
    clear h2 b2
    obtain ⟨i, g, cp, n, u, ts, rfl, rfl, rfl, hik, hn, hni, hsl, hts, own, hz, hne, bz⟩ := hrel
    have HIK := Lib.hid hik
    have HN := Lib.hid hn
    have HSL := Lib.hid hsl
    have hul := oneH_le hz.hb
    obtain ⟨σ, hσ⟩ : ∃ σ : Int, (u : Int) = σ := ⟨_, rfl⟩
    rw [hσ]
    have hσ0 : 0 ≤ σ := by omega
    have hσ1 : σ ≤ 4096 := by omega
    have hσz := Lib.hid (show σ ≤ z by have := hZI.out; omega)
    have HS := Lib.hid hσ
    have HUL := Lib.hid hul
    have HNI := Lib.hid hni
    clear hn hsl hul hσ hni
    by_cases hi : i < k
    · obtain ⟨ad, x, hA, hadb, hx, hcell⟩ := (L.below bz (Nat.le_refl _)).int (i := i) (by rw [HL.out]; exact hi)
      subst hA
      have hi2 : (i : Int) < 100 := by have := hkk.out; omega
      obtain ⟨c, hc, hc1⟩ := and_nat x 255 8 256 (by decide) (by decide) (by decide)
      obtain ⟨μ, hμ⟩ : ∃ μ : Int, (c : Int) = μ := ⟨_, rfl⟩
      rw [hμ] at hc
      have hμ0 : 0 ≤ μ := by omega
      have hμ1 : μ < 256 := by omega
      clear hx hik hc1 hμ c
      by_cases hm : μ ≤ z - σ
      · obtain ⟨e1, e2⟩ := tk_ok (H := oneH Z u) (m := μ) (oneH_at Z u) hμ0 (by have := hZI.out; have := HS.out; omega)
        have d1 := Lib.hid hm
        clear hm
        go_wp2_with fail
        refine (h_take l _ 7 μ _ hz).mono ?_
        rw [e1, e2, oneH_put]
        rintro e w3 ⟨rfl, h3, g3⟩
        have b3 := below_row bz hll g3 bz.size
        have own3 := own_off own g3 hne
        clear e1 e2 hz bz g3 hcell own hc
        have hsz := b3.size
        have hn100 : n ≤ 100 := by have := HNI.out; have := hkk.out; omega
        go_upto_region 20 with (at_builtin; refine wpList_app1 rfl (.tmp 37) (.tmp 39) 22 rfl w.heap.size 3 i0 (.int .i64 0) 8 Try.underlying22 hi0 hz0 hz1 hz2 rfl (.slice (some ⟨g, 0, none⟩) n cp) n (ints ts) rfl own3 (.int .i64 μ) _ rfl _ rfl rfl (by omega) (by omega) hsz ?_; intro g' cp' w4 own4 hg4 hat4 hlt4)
        have h4 := h3.off hg4 (Ne.symm hne)
        have b4 := b3.grown hg4 hsz (fun q hq => by simp [Value.ownBlock] at hq; have := (own_cap own3).2.2; omega)
        have hne4 : g' ≠ l := by
          rcases hat4 with h | h
          · simp [Value.ownBlock] at h; omega
          · have := h3.lt; omega
        rw [show ints ts ++ [Value.int .i64 μ] = ints (ts ++ [μ]) by simp] at own4
        obtain ⟨σ', hσ'⟩ : ∃ σ' : Int, σ + μ = σ' := ⟨_, rfl⟩
        rw [hσ']
        have hs0 : 0 ≤ σ' := by omega
        have hs1 : σ' ≤ 4096 := by have := d1.out; omega
        have hs2 : decide (z < σ') = false := dec_f (by have := d1.out; omega)
        have HF := Lib.hid (show fr (oneH Z (u + μ.toNat)) 7 = z - σ' by rw [fr_of (oneH_at _ _)]; have := hZI.out; have := HS.out; omega)
        have HUI := Lib.hid (show ((u + μ.toNat : Nat) : Int) = σ' by have := HS.out; omega)
        have HSN := Lib.hid (show sL (ts ++ [μ]) = u + μ.toNat by rw [sL_snoc, HSL.out])
        have HTS := Lib.hid (show ∀ x ∈ ts ++ [μ], 0 ≤ x by
          intro x hx
          rcases List.mem_append.1 hx with q | q
          · exact hts x q
          · rw [List.mem_singleton.1 q]; exact hμ0)
        clear own3 h3 b3 hg4 hat4 hlt4 hσ' d1 hσz hσ0 hσ1 hμ0 hμ1 hts
        go_wp2_with fail
        refine (h_free l _ 7 _ h4).mono ?_
        rw [HF.out]
        rintro e w5 ⟨rfl, q5, hw5⟩
        have h5 : Ho w5 l (oneH Z (u + μ.toNat)) := by rw [hw5]; exact h4.drewN _
        have b5 : Below w.heap.size w w5 := by rw [hw5]; exact below_drewN b4 _
        have own5 := own_off own4 (show w4.grownBy w5 (some l) by rw [hw5]; exact grown_drewN _ _ _) hne4
        clear hw5 h4 b4 own4
        go_wp2_with fail
        go_roundg (gk - 1)
        case measure => have := HIK.out; omega
        case rel => exact ⟨i + 1, g', cp', n + 1, u + μ.toNat, ts ++ [μ], by go_num, by rw [HUI.out], by go_num, by have := HIK.out; omega, by simp [HN.out], by have := HNI.out; omega, HSN.out, HTS.out, own5, h5, hne4, b5⟩
      · obtain ⟨e1, e2⟩ := tk_no (H := oneH Z u) (m := μ) (oneH_at Z u) (by have := hZI.out; have := HS.out; omega)
        have d1 : decide (σ + μ ≤ z) = false := dec_f (by omega)
        clear hm
        go_wp2_with fail
        refine (h_take l _ 7 μ _ hz).mono ?_
        rw [e1, e2]
        rintro e w3 ⟨rfl, h3, g3⟩
        have b3 := below_row bz hll g3 bz.size
        have own3 := own_off own g3 hne
        clear e1 e2 hz bz g3 hcell own hc
        go_upto_region 20 with (fail)
        have hs2 : decide (z < σ) = false := dec_f (by have := hσz.out; omega)
        have HF := Lib.hid (show fr (oneH Z u) 7 = z - σ by rw [fr_of (oneH_at _ _)]; have := hZI.out; have := HS.out; omega)
        clear d1 hμ0 hμ1
        go_wp2_with fail
        refine (h_free l _ 7 _ h3).mono ?_
        rw [HF.out]
        rintro e w5 ⟨rfl, q5, hw5⟩
        have h5 : Ho w5 l (oneH Z u) := by rw [hw5]; exact h3.drewN _
        have b5 : Below w.heap.size w w5 := by rw [hw5]; exact below_drewN b3 _
        have own5 := own_off own3 (show w3.grownBy w5 (some l) by rw [hw5]; exact grown_drewN _ _ _) hne
        clear hw5 h3 b3 own3
        go_wp2_with fail
        go_roundg (gk - 1)
        case measure => have := HIK.out; omega
        case rel => exact ⟨i + 1, g, cp, n, u, ts, by go_num, by rw [HS.out], by go_num, by have := HIK.out; omega, HN.out, by have := HNI.out; omega, HSL.out, hts, own5, h5, hne, b5⟩
    · obtain rfl : i = k := by omega
      clear hik hi hσ0 hσ1 hσz
      have hn100 : (n : Int) ≤ 100 := by have := HNI.out; have := hkk.out; omega
      go_wp2_with fail
      go_loopg [63] n (fun gk vi wz => ∃ (j v : Nat), vi = .int .i64 (j : Int) ∧ j + gk = n ∧ v = sL (ts.drop j) ∧ wz.ownsRow w.heap.size 3 1 (.slice (some ⟨g, 0, none⟩) n cp) n (ints ts) ∧ Ho wz l (oneH Z v) ∧ Below w.heap.size w wz)
      case atStart => exact ⟨0, u, rfl, by omega, by rw [List.drop_zero]; exact HSL.out.symm, own, hz, bz⟩
      case round =>
        clear own hz bz
        obtain ⟨j, v, rfl, hjk, hv, own, hz, bz⟩ := hrel
        have HJK := Lib.hid hjk
        by_cases hj : j < n
        · obtain ⟨ad, x, hA, hadb, hx, hcell⟩ := (lies_own own).int (i := j) (by rw [HN.out]; exact hj)
          cases hA
          have hx0 := hts x (List.mem_of_getElem? hx)
          rw [sL_drop hx] at hv
          obtain ⟨e1, e2⟩ := gv_ok (H := oneH Z v) (m := x) (oneH_at Z v) hx0 (by omega)
          rw [show lv false Z (v - x.toNat) = some (false, Z, v - x.toNat) from rfl, oneH_put] at e2
          have HV := Lib.hid (show v - x.toNat = sL (ts.drop (j + 1)) by omega)
          have hnc := (own_cap own).1
          rw [add_lit0] at hcell
          clear hv hjk hx hx0
          go_wp2_with fail
          refine (h_give l _ 7 x _ hz).mono ?_
          rw [e1, e2]
          rintro e w3 ⟨rfl, h3, g3⟩
          have b3 := below_row bz hll g3 bz.size
          have own3 := own_off own g3 hne
          clear e1 e2 hz bz g3 hcell own
          go_wp2_with fail
          go_roundg (gk - 1)
          case measure => have := HJK.out; omega
          case rel => exact ⟨j + 1, v - x.toNat, by go_num, by have := HJK.out; omega, HV.out, own3, h3, b3⟩
        · obtain rfl : j = n := by omega
          have hv0 : v = 0 := by rw [hv, ← HN.out, List.drop_length]; rfl
          subst hv0
          clear hjk hj hv
          go_wp2_with fail
          refine (h_free l _ 7 _ hz).mono ?_
          rw [show fr (oneH Z 0) 7 = z by rw [fr_of (oneH_at _ _)]; have := hZI.out; omega]
          rintro e w5 ⟨rfl, q5, hw5⟩
          have h5 : Ho w5 l (oneH Z 0) := by rw [hw5]; exact hz.drewN _
          have b5 : Below w.heap.size w w5 := by rw [hw5]; exact below_drewN bz _
          clear hw5 hz bz
          go_wp2_with fail
          obtain ⟨e1, e2⟩ := gv_no (H := oneH Z 0) (m := 1) (oneH_at Z 0) (by decide)
          refine (h_give l _ 7 1 _ h5).mono ?_
          rw [e1, e2]
          rintro e w6 ⟨rfl, h6, g6⟩
          have b6 := below_row b5 hll g6 b5.size
          go_wp2_with fail
          refine (h_up l _ 7 _ h6).mono ?_
          rw [up_ok (oneH_at Z 0)]
          rintro e w7 ⟨rfl, rfl⟩
          go_wp2_with fail
          go_ret
          exact ⟨rfl, b6⟩

end Go.Proofs.Ythmmobhbakmbpaa.W
