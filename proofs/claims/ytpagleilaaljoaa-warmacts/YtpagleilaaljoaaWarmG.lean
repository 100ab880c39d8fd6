/- The law WarmTies: its walk. -/
import Derived.Test.YtpagleilaaljoaaWarmF
import Derived.Test.YtpagleilaaljoaaRng
namespace Go.Proofs.Ytpagleilaaljoaa.W.HR
open Go.RowKit
set_option linter.unusedVariables false

theorem zeroB (w : World) : (zeroValue 4).run Try.prog w = .ok (.bool false) w := by kernel_rfl
abbrev MB (A : Int → Option V) : Int → Option Value := fun z => (A z).map (fun _ => Value.bool true)
theorem MB_set (A : Int → Option V) (k : Int) (v : V) : MB (updZ A k (some v)) = updZ (MB A) k (some (.bool true)) := by funext z; unfold MB updZ; split <;> rfl

set_option maxRecDepth 100000 in
set_option maxHeartbeats 3200000 in
theorem ties_walk (a0 : Option Addr) (k0 cap : Nat) (xs : List Int) (x1 x2 x3 : Int) (hl : xs.length = k0) (_hc : k0 ≤ cap) (w : World) (L : Lies w w.heap.size a0 (ints xs)) :
    Calls Try.prog 10 #[.slice a0 k0 cap, .int .i64 x1, .int .i64 x2, .int .i64 x3] w fun e w' => e = .returned (.bool true) ∧ Below w.heap.size w w' := by
  have HL := Lib.hid hl
  clear hl
  by_cases hk : 60 < k0
  · have hki : decide ((60 : Int) < (k0 : Int)) = true := by simp; omega
    go_enter Try.func10, Try.ntmps10
    go_wp2_with fail
    refine (head9 _).mono ?_
    rintro e w1 ⟨rfl, b1⟩
    go_wp2_with fail
    go_ret
    exact ⟨rfl, b1⟩
  · have hki : decide ((60 : Int) < (k0 : Int)) = false := by simp; omega
    have hmm := @run_makeMap Try.prog
    obtain ⟨o, ho, ho1⟩ := and_nat x1 1023 10 1024 (by decide) (by decide) (by decide)
    obtain ⟨k, hk, hk1⟩ := and_nat x2 1023 10 1024 (by decide) (by decide) (by decide)
    obtain ⟨m0, hm0, hm1⟩ := and_nat x3 4095 12 4096 (by decide) (by decide) (by decide)
    obtain ⟨m, hm⟩ : ∃ m, m = 1 + m0 := ⟨_, rfl⟩
    have hmI : (1 : Int) + (m0 : Int) = (m : Int) := by omega
    have hoI : (o : Int) < 1024 := by omega
    have hkI : (k : Int) < 1024 := by omega
    have hmI2 : (m : Int) < 4097 := by omega
    have hm0' : 0 < m := by omega
    have hm64 : m < 4097 := by omega
    clear hm hm1
    have hokle : o * k ≤ 1023 * 1023 := Nat.mul_le_mul (by omega) (by omega)
    obtain ⟨y, hy⟩ : ∃ y, y = o * k := ⟨_, rfl⟩
    have hy1 : y ≤ 1046529 := by omega
    have HY := Lib.hid hy
    have HOK := Lib.hid hokle
    have HO := Lib.hid ho
    have HK := Lib.hid hk
    have HM0 := Lib.hid hm0
    clear hy hokle ho hk hm0
    go_enter Try.func10, Try.ntmps10
    go_wp2_with fail
    refine (head9 _).mono ?_
    rintro e w1 ⟨rfl, b1⟩
    go_wp2_with fail
    refine (z_new (B := w.heap.size) w1 b1.size).mono ?_
    rintro e w2 ⟨rfl, h2, b2⟩
    obtain ⟨c, hc⟩ : ∃ c, w1.heap.size = c := ⟨_, rfl⟩
    have bb2 := b1.trans (b2.mono b1.size)
    rw [hc] at h2 ⊢
    clear hc b1 b2
    have h3 := h2.alloc (.map #[] 0)
    have hb3 : Below w2.heap.size w2 (w2.alloc (.map #[] 0)) := (Below.refl _ _).alloc (Nat.le_refl _) _
    have bb3 := bb2.trans (hb3.mono bb2.size)
    have hmp3 : Mp Try.prog 3 (w2.alloc (.map #[] 0)) w2.heap.size (MB (fun _ => none)) 0 := Mp.made _ _ _
    obtain ⟨mb, hmb⟩ : ∃ mb, w2.heap.size = mb := ⟨_, rfl⟩
    rw [hmb] at h3 hmp3
    clear hb3
    go_wp2_with fail
    clear hmb hki
    generalize w2.alloc (.map #[] 0) = w3 at h3 bb3 hmp3 ⊢
    go_loopg [25] k0 (fun gk vi wr => ∃ (i n : Nat) (A : Int → Option V), vi = .int .i64 (i : Int) ∧ i + gk = k0 ∧ Cz w.heap.size [mb] wr c 0 n A ∧ Mp Try.prog 3 wr mb (MB A) n ∧ n ≤ i ∧ Hid (n = cntB (fun z => (A z).isSome) 256) ∧ Hid (∀ z v, A z = some v → v = (y, m, z) ∧ 0 ≤ z ∧ z < 256) ∧ Below w.heap.size w wr)
    case atStart => exact ⟨0, 0, _, rfl, by omega, h3, hmp3, by omega, Lib.hid (cntB_zero (fun z _ => rfl)).symm, Lib.hid (fun z v q => by cases q), bb3⟩
    case round =>
      clear h3 bb3 hmp3
      obtain ⟨i, n, A, rfl, hik, hz, hmp, hni, HN, HA, bz⟩ := hrel
      have HIK := Lib.hid hik
      by_cases hi : i < k0
      · obtain ⟨ad, x, ha, hab, hx, cx⟩ := (L.below bz (Nat.le_refl _)).int (i := i) (by rw [HL.out]; exact hi)
        subst ha
        have hii : (i : Int) < (k0 : Int) := by omega
        clear hik hx
        obtain ⟨d, hd, hd1⟩ := and_nat x 255 8 256 (by decide) (by decide) (by decide)
        obtain ⟨n1, hn1⟩ : ∃ n1, n1 = if (A (d : Int)).isSome then n else n + 1 := ⟨_, rfl⟩
        have hn1' : n1 ≤ n + 1 := by rw [hn1]; split <;> omega
        have HN1 := Lib.hid hn1
        clear hn1
        have hdw : (KL (d : Int)).wf = true := Go.WalkArith.wf_i64 ⟨by omega, by omega⟩
        have hml : n < maxLen := by have : (1073741824 : Nat) < maxLen := by decide
                                    omega
        have ho := HO.out
        have hk := HK.out
        have hm0 := HM0.out
        go_wp2_with fail
        refine (z_set _ c 0 n A (d : Int) o k m y hz hdw (by decide) (by have := HOK.out; omega) hm0' (by omega) (by rw [HY.out]; omega) (by omega) (by omega) n1 HN1.out).mono ?_
        rintro e w4 ⟨rfl, h4, s4⟩
        have bb4 := bz.trans (s4.bel hz.sz)
        have hmp4 := hmp.kept s4 (fun e => e.2 (by simp))
        clear cx ho hk hm0
        go_wp2_with (at_mapUpdate; refine wpList_mp_set rfl (.tmp 43) (.tmp 45) (.const (.bool true)) 63 rfl 3 4 Try.underlying3 Try.underlying63 mb _ n rfl hmp4 hml (d : Int) rfl hdw (.bool true) rfl n1 (by rw [HN1.out]; simp) ?_; intro w5 hm5 hg5; clear hd)
        rw [← MB_set A (d : Int) (y, m, (d : Int))] at hm5
        have hO5 : Only w4 w5 (fun j => j = mb) := Only.grown hg5 (Or.inl rfl)
        have h5 := h4.wrote hO5 (by simp)
        have bb5 := bb4.trans (hO5.below (fun j e => by rw [e]; exact (h4.lo mb (by simp)).1) h4.sz)
        go_roundg (gk - 1)
        case measure => have := HIK.out; omega
        case rel =>
          refine ⟨i + 1, n1, _, by go_num, by have := HIK.out; omega, h5, hm5, by omega, Lib.hid ?_, Lib.hid ?_, bb5⟩
          · have hN := HN.out
            rw [HN1.out]
            by_cases q : (A (d : Int)).isSome = true
            · rw [if_pos q]
              refine hN.trans (cntB_ext (fun z _ => ?_))
              show (A z).isSome = (updZ A (d : Int) (some (y, m, (d : Int))) z).isSome
              unfold updZ; split
              · rename_i e; rw [e, q]; rfl
              · rfl
            · rw [if_neg q]
              have hp := cntB_put (f := fun z => (A z).isSome) (g := fun z => (updZ A (d : Int) (some (y, m, (d : Int))) z).isSome) (x := d) (by simpa using q) (fun z => by
                show (updZ A (d : Int) (some (y, m, (d : Int))) z).isSome = ((A z).isSome || z == (d : Int))
                unfold updZ
                by_cases e : z = (d : Int)
                · rw [if_pos e]; simp [e]
                · rw [if_neg e]; simp [e]) (n := 256) hd1
              omega
          · intro z v q
            unfold updZ at q; split at q
            · rename_i e; cases q; exact ⟨by rw [e], by omega, by omega⟩
            · exact HA.out z v q
      · obtain rfl : i = k0 := by omega
        clear hik HIK hi
        go_upto_region 15 with (first
          | (at_range; refine wpList_rng rfl (.tmp 47) 63 rfl 3 4 Try.underlying3 Try.underlying63 mb _ n rfl hmp ?_; intro w4 hrg4 hg4))
        have hO4 : Only wr w4 (fun _ => False) := Only.grownN hg4
        obtain ⟨rb, hrb⟩ : ∃ rb, wr.heap.size = rb := ⟨_, rfl⟩
        have hmlt := hmp.lt
        have h4 : Cz w.heap.size [rb, mb] w4 c 0 n A := by
          have ht := hz.cq.tight.kept hO4 (fun _ _ q => q)
          refine ⟨ht.mono (fun j q => ⟨q.1.1, ?_⟩), fun q hq => ?_, Nat.le_trans hz.sz hO4.size⟩
          · intro e
            rcases List.mem_cons.1 e with e | e
            · omega
            · exact q.1.2 e
          · rcases List.mem_cons.1 hq with e | e
            · rw [e, ← hrb]; exact ⟨hz.sz, hrg4.ne.2⟩
            · exact ⟨(hz.lo q e).1, Nat.lt_of_lt_of_le (hz.lo q e).2 hO4.size⟩
        have bb4 := bz.trans (hO4.below (fun _ q => q.elim) bz.size)
        rw [hrb] at hrg4
        rw [hrb]
        have hnb : rb ≠ mb := by omega
        clear hz bz hmp hg4 hO4 hrb
        have hN4 := HN.out
        obtain ⟨MM, hMM⟩ : ∃ M, M = MB A := ⟨_, rfl⟩
        have hrg5 : Rg Try.prog 3 w4 mb rb MM n (fun x => (MB A x).isSome) := by rw [hMM]; exact hrg4
        have HMM := Lib.hid hMM
        clear hMM hrg4
        go_frame
        go_loopg [13] n (fun gk vl wr => ∃ (left : Int → Bool) (A1 : Int → Option V) (cl : Nat) (last : Int), vl = .int .i64 last ∧ Hid (gk = cntB left 256) ∧ Cz w.heap.size [rb, mb] wr c cl gk A1 ∧ Rg Try.prog 3 wr mb rb MM n left ∧ Hid (∀ z, left z = true → 0 ≤ z ∧ z < 256) ∧ Hid (∀ z v, A1 z = some v → v = (y, m, z) ∧ (A z).isSome = true ∧ last < z) ∧ Below w.heap.size w wr)
        case atStart =>
          refine ⟨_, A, 0, -1, rfl, Lib.hid (hN4.trans (cntB_ext (fun z _ => ?_))), h4, hrg5, Lib.hid (fun z q => ?_), Lib.hid (fun z v q => ⟨(HA.out z v q).1, by rw [q]; rfl, by have := (HA.out z v q).2; omega⟩), bb4⟩
          · show (A (z : Int)).isSome = (MB A (z : Int)).isSome
            unfold MB; cases A (z : Int) <;> rfl
          · have q' : (MB A z).isSome = true := q
            unfold MB at q'
            cases e : A z with
            | none => rw [e] at q'; cases q'
            | some v => exact (HA.out z v e).2
        case round =>
          clear h4 hrg5 bb4 hN4
          obtain ⟨left, A1, cl, last, rfl, HG, h4, hrg, HLF, HA1, bb4⟩ := hrel
          have hgn : gk ≤ 256 := by
            have : ∀ t, cntB left t ≤ t := by
              intro t
              induction t with
              | zero => exact Nat.le_refl _
              | succ t ih => unfold cntB; split <;> omega
            have := this 256; have := HG.out; omega
          go_wp2_with (at_next; refine wpList_nxt rfl (.tmp 48) rfl 3 Try.underlying3 mb rb _ n left rfl hrg ?_ ?_)
          · intro hdone
            have hg0 : gk = 0 := by
              rw [HG.out]
              refine cntB_zero (fun z hz => hdone _ (Go.WalkArith.wf_i64 ⟨by omega, by omega⟩))
            subst hg0
            go_wp2_with fail
            refine (z_len wr c cl 0 A1 h4).mono ?_
            rintro e w5 ⟨rfl, h5, s5⟩
            go_wp2_with fail
            go_ret
            exact ⟨rfl, bb4.trans (s5.bel h4.sz)⟩
          · intro x v w5 hwx hlx hMx hrg5 hg5 hen
            have hxr := HLF.out x hlx
            obtain ⟨xn, hxn⟩ : ∃ xn : Nat, x = (xn : Int) := ⟨x.toNat, by omega⟩
            subst hxn
            have htake := cntB_take (f := left) (x := xn) hlx (n := 256) (by omega)
            obtain ⟨g1, hg1⟩ : ∃ g1, gk = g1 + 1 := ⟨gk - 1, by have := HG.out; omega⟩
            have hO5 : Only wr w5 (fun j => j = rb) := Only.grown hg5 (Or.inl rfl)
            have h5 := h4.wrote hO5 (by simp)
            have bb5 := bb4.trans (hO5.below (fun j e => by rw [e]; exact (h4.lo rb (by simp)).1) h4.sz)
            have HT := Lib.hid htake
            have HG1 := Lib.hid hg1
            have HLX := Lib.hid hlx
            have HMX := Lib.hid hMx
            clear htake hg1 hlx hMx hen h4 bb4 hrg
            go_wp2_with fail
            refine (z_evict w5 c cl gk A1 h5 g1 HG1.out (by omega)).mono ?_
            rintro e w6 ⟨id, v', rfl, hA', hmin', h6, s6⟩
            obtain ⟨rfl, hsome, hlast⟩ := HA1.out id v' hA'
            have bb6 := bb5.trans (s6.bel h5.sz)
            have hrg6 := hrg5.kept s6 (fun e => e.2 (by simp)) (fun e => e.2 (by simp))
            have hidw := (h5.cq.ids hA').2.2.1
            have hMid : MM id = some (.bool true) := by
              rw [HMM.out]
              show (A id).map (fun _ => Value.bool true) = some (.bool true)
              cases q : A id with
              | none => rw [q] at hsome; cases hsome
              | some v => rfl
            have HMID := Lib.hid hMid
            have HMIN := Lib.hid hmin'
            have hld : decide (id ≤ last) = false := by simp; omega
            clear hMid hsome hA' hmin' h5 bb5 hrg5
            go_wp2_with (at_lookup; refine wpList_unguard (by rfl) ?_; refine wpList_mp_at rfl (.tmp 65) (.tmp 66) 63 rfl 3 4 Try.underlying3 Try.underlying63 (zeroB _) mb _ n rfl hrg6.mp id rfl hidw (some (.bool true)) HMID.out ?_)
            go_roundg g1
            case measure => have := HG1.out; omega
            case rel =>
              refine ⟨_, _, _, id, rfl, Lib.hid ?_, h6, hrg6, Lib.hid ?_, Lib.hid ?_, bb6⟩
              · have a1 := HT.out; have a2 := HG.out; have a3 := HG1.out; omega
              · intro z hq
                have : left z = true := by
                  have hq' : (left z && !(z == (xn : Int))) = true := hq
                  simp at hq'; exact hq'.1
                exact HLF.out z this
              · intro z u hq
                unfold updZ at hq; split at hq
                · cases hq
                · rename_i ne
                  obtain ⟨rfl, q2, q3⟩ := HA1.out z u hq
                  refine ⟨rfl, q2, ?_⟩
                  have hlt := HMIN.out z _ hq
                  have hlt' : lt (y, m, z) (y, m, id) = decide (z < id) := lt_eq rfl
                  rw [hlt'] at hlt
                  have := of_decide_eq_false hlt
                  omega
end Go.Proofs.Ytpagleilaaljoaa.W.HR
