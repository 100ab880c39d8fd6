/- The law TimerTurns: its walk. -/
import Derived.Test.YtkldoeillkfpbaaTimG
import Derived.Deep.DeepCutAuto
import Derived.Deep.CutBlock
namespace Go.Proofs.Ytkldoeillkfpbaa.W.HT
open Go.RowKit

theorem Below.at_ {B : Nat} {w w' : World} (h : Below B w w') {j : Nat} (hj : j < B) {o : Obj} (e : w.heap[j]? = some o) : w'.heap[j]? = some o := by rw [h.block j hj]; exact e
theorem T2.below {S0 : Nat} {L : Nat → Prop} {w w' : World} {a b na nb : Nat} {A B : K → Option Int} (h : T2 S0 L w a b na nb A B) (hb : Below w.heap.size w w') : T2 S0 L w' a b na nb A B := h.kept (Only.of_below (S := fun _ => False) hb) (fun _ q => q.elim)

set_option maxRecDepth 100000 in
set_option maxHeartbeats 6400000 in
theorem turns_walk (a0 a1 a2 : Option Addr) (n k1 m cap0 cap1 cap2 : Nat) (xs ts fs : List Int) (x3 : Int) (hl0 : xs.length = n) (_hc0 : n ≤ cap0) (hl1 : ts.length = k1) (_hc1 : k1 ≤ cap1) (hl2 : fs.length = m) (_hc2 : m ≤ cap2) (w : World) (L0 : Lies w w.heap.size a0 (ints xs)) (L1 : Lies w w.heap.size a1 (ints ts)) (wf1 : ∀ z ∈ ts, (Lit.int .i64 z).wf = true) (L2 : Lies w w.heap.size a2 (ints fs)) (wf2 : ∀ z ∈ fs, (Lit.int .i64 z).wf = true) :
    Calls Try.prog 5 #[.slice a0 n cap0, .slice a1 k1 cap1, .slice a2 m cap2, .int .i64 x3] w fun e w' => e = .returned (.bool true) ∧ Below w.heap.size w w' := by
  have HL0 := Lib.hid hl0
  have HL1 := Lib.hid hl1
  have HL2 := Lib.hid hl2
  clear hl0 hl1 hl2
  by_cases h1 : 60 < n
  · have hd1 : decide ((60 : Int) < (n : Int)) = true := by simp; omega
    go_enter Try.func5, Try.ntmps5
    go_upto_region 1 with (fail)
    have b0 : Below w.heap.size w (w.alloc (.cells #[.slice a0 n cap0] 42)) := (Below.refl _ _).alloc (Nat.le_refl _) _
    have HV0 := Lib.hid (heap_alloc_new w (.cells #[.slice a0 n cap0] 42))
    generalize w.alloc (.cells #[.slice a0 n cap0] 42) = w0 at b0 HV0 ⊢
    go_wp2_with fail
    refine (head14 _).mono ?_
    rintro e w1 ⟨rfl, b1⟩
    have v0 := cell_of_row _ _ 0 _ _ _ ((Only.of_below (S := fun _ => False) b1).blk (fun q => q) HV0.out)
    go_wp2_with fail
    go_ret
    exact ⟨rfl, b0.trans (b1.mono b0.size)⟩
  by_cases h2 : k1 < n
  · have hd1 : decide ((60 : Int) < (n : Int)) = false := by simp; omega
    have hd2 : decide ((k1 : Int) < (n : Int)) = true := by simp; omega
    go_enter Try.func5, Try.ntmps5
    go_upto_region 1 with (fail)
    have b0 : Below w.heap.size w (w.alloc (.cells #[.slice a0 n cap0] 42)) := (Below.refl _ _).alloc (Nat.le_refl _) _
    have HV0 := Lib.hid (heap_alloc_new w (.cells #[.slice a0 n cap0] 42))
    generalize w.alloc (.cells #[.slice a0 n cap0] 42) = w0 at b0 HV0 ⊢
    go_wp2_with fail
    refine (head14 _).mono ?_
    rintro e w1 ⟨rfl, b1⟩
    have v0 := cell_of_row _ _ 0 _ _ _ ((Only.of_below (S := fun _ => False) b1).blk (fun q => q) HV0.out)
    go_wp2_with fail
    go_ret
    exact ⟨rfl, b0.trans (b1.mono b0.size)⟩
  by_cases h3 : 60 < m
  · have hd1 : decide ((60 : Int) < (n : Int)) = false := by simp; omega
    have hd2 : decide ((k1 : Int) < (n : Int)) = false := by simp; omega
    have hd3 : decide ((60 : Int) < (m : Int)) = true := by simp; omega
    go_enter Try.func5, Try.ntmps5
    go_upto_region 1 with (fail)
    have b0 : Below w.heap.size w (w.alloc (.cells #[.slice a0 n cap0] 42)) := (Below.refl _ _).alloc (Nat.le_refl _) _
    have HV0 := Lib.hid (heap_alloc_new w (.cells #[.slice a0 n cap0] 42))
    generalize w.alloc (.cells #[.slice a0 n cap0] 42) = w0 at b0 HV0 ⊢
    go_wp2_with fail
    refine (head14 _).mono ?_
    rintro e w1 ⟨rfl, b1⟩
    have v0 := cell_of_row _ _ 0 _ _ _ ((Only.of_below (S := fun _ => False) b1).blk (fun q => q) HV0.out)
    go_wp2_with fail
    go_ret
    exact ⟨rfl, b0.trans (b1.mono b0.size)⟩
  have hd1 : decide ((60 : Int) < (n : Int)) = false := by simp; omega
  have hd2 : decide ((k1 : Int) < (n : Int)) = false := by simp; omega
  have hd3 : decide ((60 : Int) < (m : Int)) = false := by simp; omega
  go_enter Try.func5, Try.ntmps5
  go_upto_region 1 with (fail)
  have b0 : Below w.heap.size w (w.alloc (.cells #[.slice a0 n cap0] 42)) := (Below.refl _ _).alloc (Nat.le_refl _) _
  have HV0 := Lib.hid (heap_alloc_new w (.cells #[.slice a0 n cap0] 42))
  obtain ⟨V, hV⟩ : ∃ V, w.heap.size = V := ⟨_, rfl⟩
  rw [hV] at HV0
  rw [hV]
  clear hV
  generalize w.alloc (.cells #[.slice a0 n cap0] 42) = w0 at b0 HV0 ⊢
  have hVlt := lt_of_row HV0.out
  obtain ⟨S0, hS0⟩ : ∃ S0, w0.heap.size = S0 := ⟨_, rfl⟩
  rw [hS0] at hVlt
  have HS0 := Lib.hid hS0
  have hwS : w.heap.size ≤ S0 := by rw [← hS0]; exact b0.size
  have hlow : ∀ wr, Below S0 w0 wr → Below w.heap.size w wr := fun wr h => b0.trans (h.mono hwS)
  have HLOW := Lib.hid hlow
  go_wp2_with fail
  refine (head14 _).mono ?_
  rintro e w1 ⟨rfl, b1⟩
  rw [hS0] at b1
  clear hS0 hlow b0
  have v0 := cell_of_row _ _ 0 _ _ _ (Below.at_ b1 hVlt HV0.out)
  go_wp2_with fail
  clear hd1 hd2 hd3
  go_loopg [43] n (fun gk vi wr => ∃ i : Nat, vi = .int .i64 (i : Int) ∧ i + gk = n ∧ Hid (∀ p, p < i → ∀ q, q < p → nth xs p % 256 ≠ nth xs q % 256) ∧ Below S0 w0 wr)
  case atStart => exact ⟨0, rfl, by omega, Lib.hid (fun p q => absurd q (by omega)), b1⟩
  case round =>
    clear b1 v0
    obtain ⟨i, rfl, hik, HD, bz⟩ := hrel
    have HIK := Lib.hid hik
    by_cases hi : i < n
    · have hii : (i : Int) < (n : Int) := by omega
      clear hik
      go_wp2_with fail
      go_loopg [47] i (fun gk vi wr => ∃ j : Nat, vi = .int .i64 (j : Int) ∧ j + gk = i ∧ Hid (∀ q, q < j → nth xs i % 256 ≠ nth xs q % 256) ∧ Below S0 w0 wr)
      case atStart => exact ⟨0, rfl, by omega, Lib.hid (fun q h => absurd h (by omega)), bz⟩
      case round =>
        clear bz
        obtain ⟨j, rfl, hjk, HJ, bz⟩ := hrel
        have HJK := Lib.hid hjk
        by_cases hj : j < i
        · obtain ⟨ad, x, ha, hab, hx, cx⟩ := (L0.below (HLOW.out _ bz) (Nat.le_refl _)).int (i := i) (by rw [HL0.out]; exact hi)
          obtain ⟨ad', y, ha', hab', hy, cy⟩ := (L0.below (HLOW.out _ bz) (Nat.le_refl _)).int (i := j) (by rw [HL0.out]; omega)
          obtain rfl : ad = ad' := by rw [ha] at ha'; injection ha'
          subst ha
          have v0 := cell_of_row _ _ 0 _ _ _ (Below.at_ bz hVlt HV0.out)
          have hji : (j : Int) < (i : Int) := by omega
          have hjn : (j : Int) < (n : Int) := by omega
          have mx := and_mask x 255 8 256 (by decide) (by decide) (by decide)
          have my := and_mask y 255 8 256 (by decide) (by decide) (by decide)
          have nx := nth_at hx
          have ny := nth_at hy
          obtain ⟨p, hp⟩ : ∃ p, x % 256 = p := ⟨_, rfl⟩
          obtain ⟨q, hq⟩ : ∃ q, y % 256 = q := ⟨_, rfl⟩
          have mx : bits .and .i64 x 255 = p := by rw [mx]; exact hp
          have my : bits .and .i64 y 255 = q := by rw [my]; exact hq
          have HP := Lib.hid (show nth xs i % 256 = p by rw [nx]; exact hp)
          have HQ := Lib.hid (show nth xs j % 256 = q by rw [ny]; exact hq)
          clear hjk ha' hx hy nx ny hp hq
          by_cases e : p = q
          · subst e
            go_wp2_with fail
            go_quiet (fail)
            go_wp2_with fail
            go_ret
            exact ⟨rfl, HLOW.out _ (below_drewN bz nq)⟩
          · have hpq : (p == q) = false := by simp [e]
            have HE := Lib.hid e
            clear e
            go_wp2_with fail
            go_quiet (fail)
            have b2 := below_drewN bz nq
            clear cx cy v0
            generalize wr.drewN nq = w2 at b2 ⊢
            go_wp2_with fail
            go_roundg (i - (j + 1))
            case measure => have := HJK.out; omega
            case rel =>
              refine ⟨j + 1, by go_num, by omega, Lib.hid (fun q' h => ?_), b2⟩
              by_cases e : q' = j
              · rw [e, HP.out, HQ.out]; exact HE.out
              · exact HJ.out q' (by omega)
        · obtain rfl : j = i := by omega
          clear hjk HJK hj
          go_wp2_with fail
          go_roundg (n - (j + 1))
          case measure => have := HIK.out; omega
          case rel =>
            refine ⟨j + 1, by go_num, by omega, Lib.hid (fun p h q h' => ?_), bz⟩
            by_cases e : p = j
            · rw [e]; exact HJ.out q (by omega)
            · exact HD.out p (by omega) q h'
    · obtain rfl : i = n := by omega
      clear hik HIK hi
      have hinj := Lib.hid (kfn_inj HD.out)
      clear HD
      go_wp2_with fail
      refine (x_new wr).mono ?_
      rintro e w2 ⟨rfl, h2, b2⟩
      go_wp2_with fail
      refine (x_new w2).mono ?_
      rintro e w3 ⟨rfl, h3, b3⟩
      have hs0 : S0 ≤ wr.heap.size := by rw [← HS0.out]; exact bz.size
      have hT := T2.start (S0 := S0) hs0 h2 b2 h3 b3
      have b4 : Below S0 w0 w3 := bz.trans ((b2.trans (b3.mono b2.size)).mono hs0)
      obtain ⟨a, ha⟩ : ∃ a, wr.heap.size = a := ⟨_, rfl⟩
      obtain ⟨b, hb⟩ : ∃ b, w2.heap.size = b := ⟨_, rfl⟩
      rw [ha, hb] at hT
      rw [ha, hb]
      clear ha hb h2 h3 bz b2 b3 hs0
      go_wp2_with fail
      go_loopg [68] m (fun gk vi wr => ∃ (p c : Nat) (A : K → Option Int), vi = .int .i64 (p : Int) ∧ p + gk = m ∧ T2 S0 (fun _ => False) wr a b c 0 A (fun _ => none) ∧ Hid (c = min p i) ∧ Hid (Km (kfn xs) i (frE fs p) A) ∧ Below S0 w0 wr)
      case atStart => exact ⟨0, 0, _, rfl, by omega, hT, Lib.hid (by omega), Lib.hid ((Km.start (kfn xs) i).ext (fun j _ => rfl)), b4⟩
      case round =>
        clear hT b4
        obtain ⟨p, c, A, rfl, hpk, hT, HC, HK, bz⟩ := hrel
        have HPK := Lib.hid hpk
        by_cases hp : p < m
        · obtain ⟨ad, x, ha, hab, hx, cx⟩ := (L2.below (HLOW.out _ bz) (Nat.le_refl _)).int (i := p) (by rw [HL2.out]; exact hp)
          subst ha
          have hpi : (p : Int) < (m : Int) := by omega
          have hwx := wf2 x (List.mem_of_getElem? hx)
          have HX := Lib.hid (nth_at hx)
          clear hpk hx
          by_cases hpn : p < i
          · have hpni : (p : Int) < (i : Int) := by omega
            obtain ⟨ad0, y, ha0, hab0, hy, cy⟩ := (L0.below (HLOW.out _ bz) (Nat.le_refl _)).int (i := p) (by rw [HL0.out]; exact hpn)
            subst ha0
            have HY := Lib.hid (nth_at hy)
            clear hy
            have hkey := key_any V ad0 i cap0 p y wr (Below.at_ bz hVlt HV0.out) hpn cy
            have hc9 : c < 1073741823 := by have := HC.out; omega
            have hA0 : A (kq y) = none := by have := HK.out.at_ p hpn; unfold kfn at this; rw [HY.out] at this; rw [this]; exact if_neg (Nat.lt_irrefl _)
            have HA0 := Lib.hid hA0
            clear hA0
            go_wp2_with fail
            refine hkey.mono ?_
            rintro e w4 ⟨rfl, b5⟩
            have hT4 := hT.below b5
            clear hkey
            go_wp2_with fail
            refine (p_set w4 a b c 0 A _ (kq y) x hT4 (kq_kw y) hwx hc9 (c + 1) (by rw [HA0.out]; rfl)).mono ?_
            rintro e w5 ⟨rfl, hT5, o5⟩
            have hs4 : S0 ≤ wr.heap.size := by rw [← HS0.out]; exact bz.size
            have b6 : Below S0 w0 w4 := bz.trans (b5.mono hs4)
            have b7 : Below S0 w0 w5 := b6.trans (Fr.below o5 (by rw [← HS0.out]; exact b6.size))
            clear cx cy
            go_wp2_with fail
            go_roundg (m - (p + 1))
            case measure => have := HPK.out; omega
            case rel =>
              refine ⟨p + 1, c + 1, _, by go_num, by omega, hT5, Lib.hid (by have := HC.out; omega), Lib.hid ?_, b7⟩
              have := HK.out.set (E' := frE fs (p + 1)) hinj.out hpn x (by unfold frE; rw [if_pos (by omega), HX.out]) (fun j _ hne => by
                unfold frE
                by_cases q : j < p
                · rw [if_pos q, if_pos (by omega)]
                · rw [if_neg q, if_neg (by omega)])
              unfold kfn at this ⊢
              rw [HY.out] at this
              exact this
          · have hpni : decide ((p : Int) < (i : Int)) = false := by simp; omega
            go_wp2_with fail
            go_roundg (m - (p + 1))
            case measure => have := HPK.out; omega
            case rel => exact ⟨p + 1, c, A, by go_num, by omega, hT, Lib.hid (by have := HC.out; omega), Lib.hid (HK.out.ext (fun j hj => by unfold frE; rw [if_pos (by omega), if_pos (by omega)])), bz⟩
        · obtain rfl : p = m := by omega
          clear hpk HPK hp
          have hKa : Km (kfn xs) i (mxE ts fs p 0) A := HK.out.ext (fun j hj => by unfold frE mxE; rw [if_neg (c := j < 0) (by omega)])
          have HKa := Lib.hid hKa
          clear hKa HK
          obtain ⟨s, hs, hs1⟩ := and_nat x3 65535 16 65536 (by decide) (by decide) (by decide)
          have v0 := cell_of_row _ _ 0 _ _ _ (Below.at_ bz hVlt HV0.out)
          go_wp2_with fail
          clear v0
          go_loopg [85] i (fun gk vi wr => ∃ (q c : Nat) (A B : K → Option Int), vi = .int .i64 (q : Int) ∧ q + gk = i ∧ T2 S0 (fun _ => False) wr a b c q A B ∧ Hid (c = max q (min p i)) ∧ Hid (Km (kfn xs) i (mxE ts fs p q) A) ∧ Hid (Km (kfn xs) i (rtE ts i s q) B) ∧ Below S0 w0 wr)
          case atStart => exact ⟨0, c, A, _, rfl, by omega, hT, Lib.hid (by have := HC.out; omega), HKa, Lib.hid ((Km.start (kfn xs) i).ext (fun j _ => by unfold rtE; rw [if_neg (by omega)])), bz⟩
          case round =>
            clear hT bz HKa HC
            obtain ⟨q, c, A, B, rfl, hqk, hT, HC, HKa, HKb, bz⟩ := hrel
            have HQK := Lib.hid hqk
            by_cases hq : q < i
            · obtain ⟨ad0, y, ha0, hab0, hy, cy⟩ := (L0.below (HLOW.out _ bz) (Nat.le_refl _)).int (i := q) (by rw [HL0.out]; exact hq)
              obtain ⟨ad1, t, ha1, hab1, ht, ct⟩ := (L1.below (HLOW.out _ bz) (Nat.le_refl _)).int (i := q) (by rw [HL1.out]; omega)
              subst ha0 ha1
              have hqi : (q : Int) < (i : Int) := by omega
              have hq1 : (q : Int) < (k1 : Int) := by omega
              have hwt := wf1 t (List.mem_of_getElem? ht)
              have HY := Lib.hid (nth_at hy)
              have HT := Lib.hid (nth_at ht)
              have hs4 : S0 ≤ wr.heap.size := by rw [← HS0.out]; exact bz.size
              clear hqk hy ht
              go_upto_region 28 with (fail)
              go_cut [] (fun wc => T2 S0 (fun _ => False) wc a b (max (q + 1) (min p i)) q (updZ A (kq y) (some t)) B ∧ Below S0 w0 wc)
              case first =>
                have bd : Below wr.heap.size wr wr.drew := below_drewN (Below.refl _ _) 1
                have hkey := key_any V ad0 i cap0 q y wr.drew (Below.at_ (below_drewN bz 1) hVlt HV0.out) hq ((Only.of_below (S := fun _ => False) bd).cell (fun q => q) cy)
                have ctd := (Only.of_below (S := fun _ => False) bd).cell (fun q => q) ct
                have hTd := hT.below bd
                have hc9 : c < 1073741823 := by have := HC.out; omega
                have hcn : max (q + 1) (min p i) = if (A (kq y)).isSome then c else c + 1 := by
                  have := HKa.out.at_ q hq; unfold kfn mxE at this; rw [HY.out, if_neg (Nat.lt_irrefl _)] at this
                  rw [this]; have := HC.out
                  by_cases h : q < p
                  · rw [if_pos h]; simp; omega
                  · rw [if_neg h]; simp; omega
                have HCN := Lib.hid hcn
                clear hcn
                go_region_with (first
                  | (go_at_call 19; refine hkey.mono ?_; rintro e w4 ⟨rfl, b5⟩; have ct4 := (Only.of_below (S := fun _ => False) b5).cell (fun q => q) ctd)
                  | (go_at_call 16; refine (p_set w4 a b c q A B (kq y) t (hTd.below b5) (kq_kw y) hwt hc9 _ HCN.out).mono ?_; rintro e w5 ⟨rfl, hT5, o5⟩))
                all_goals
                  (go_wp2_with fail
                   go_meet
                   have b6 : Below S0 w0 w4 := bz.trans ((bd.trans b5).mono hs4)
                   exact ⟨hT5, b6.trans (Fr.below o5 (by rw [← HS0.out]; exact b6.size))⟩)
              case rest =>
                obtain ⟨hT2, b2⟩ := hcut
                clear hT cy ct
                -- the world behind the cut is wc
                have hs2 : S0 ≤ wc.heap.size := by rw [← HS0.out]; exact b2.size
                obtain ⟨z, hz⟩ : ∃ z, (q + s) % i = z := ⟨_, rfl⟩
                have hzn : z < i := by rw [← hz]; exact Nat.mod_lt _ (by omega)
                obtain ⟨ad0', y', ha0', hab0', hy', cy'⟩ := (L0.below (HLOW.out _ b2) (Nat.le_refl _)).int (i := z) (by rw [HL0.out]; exact hzn)
                obtain ⟨ad1', t', ha1', hab1', ht', ct'⟩ := (L1.below (HLOW.out _ b2) (Nat.le_refl _)).int (i := z) (by rw [HL1.out]; omega)
                injection ha0' with ha0'
                injection ha1' with ha1'
                subst ha0' ha1'
                have hzi : (z : Int) < (i : Int) := by omega
                have hz1 : (z : Int) < (k1 : Int) := by omega
                have hni : (i : Int) ≤ 60 := by omega
                have hsi : (s : Int) < 65536 := by omega
                have hin : ((i : Int) == 0) = false := by simp; omega
                have hrem : ((q : Int) + (s : Int)).tmod (i : Int) = (z : Int) := by rw [← hz]; exact Int.ofNat_tmod (q + s) i
                have hwt' := wf1 t' (List.mem_of_getElem? ht')
                have HY' := Lib.hid (nth_at hy')
                have HT' := Lib.hid (nth_at ht')
                have HZ := Lib.hid hz
                clear hy' ht' hz
                go_upto_region 30 with (fail)
                clear hrem
                have bd : Below wc.heap.size wc wc.drew := below_drewN (Below.refl _ _) 1
                have hkey := key_any V ad0 i cap0 z y' wc.drew (Below.at_ (below_drewN b2 1) hVlt HV0.out) hzn ((Only.of_below (S := fun _ => False) bd).cell (fun q => q) cy')
                have ctd := (Only.of_below (S := fun _ => False) bd).cell (fun q => q) ct'
                have hTd := (hT2.below bd).swap
                have hc9 : q < 1073741823 := by omega
                have hcn : q + 1 = if (B (kq y')).isSome then q else q + 1 := by
                  have := HKb.out.at_ z hzn; unfold kfn rtE at this; rw [HY'.out, ← HZ.out, idx_of hq, if_neg (Nat.lt_irrefl _)] at this
                  rw [this]; rfl
                have HCN := Lib.hid hcn
                clear hcn
                go_region_with (first
                  | (go_at_call 19; refine hkey.mono ?_; rintro e w4 ⟨rfl, b5⟩; have ct4 := (Only.of_below (S := fun _ => False) b5).cell (fun q => q) ctd)
                  | (go_at_call 16; refine (p_set w4 b a q _ B _ (kq y') t' (hTd.below b5) (kq_kw y') hwt' hc9 _ HCN.out).mono ?_; rintro e w5 ⟨rfl, hT5, o5⟩))
                all_goals
                  (have b6 : Below S0 w0 w4 := b2.trans ((bd.trans b5).mono hs2)
                   have b3 : Below S0 w0 w5 := b6.trans (Fr.below o5 (by rw [← HS0.out]; exact b6.size))
                   have hT3 := hT5.swap
                   clear cy' ct' ct4 ctd hTd hT2 hkey
                   go_wp2_with fail
                   go_roundg (i - (q + 1))
                   case measure => have := HQK.out; omega
                   case rel =>
                     refine ⟨q + 1, _, _, _, by go_num, by omega, hT3, Lib.hid rfl, Lib.hid ?_, Lib.hid ?_, b3⟩
                     · have := HKa.out.set (E' := mxE ts fs p (q + 1)) hinj.out hq t (by unfold mxE; rw [if_pos (by omega), HT.out]) (fun j _ hne => by
                         unfold mxE
                         by_cases h : j < q
                         · rw [if_pos h, if_pos (by omega)]
                         · rw [if_neg h, if_neg (by omega)])
                       unfold kfn at this ⊢
                       rw [HY.out] at this
                       exact this
                     · have := HKb.out.set (E' := rtE ts i s (q + 1)) hinj.out hzn t' (by unfold rtE; rw [← HZ.out, idx_of hq, if_pos (by omega), HZ.out, HT'.out]) (fun j hj hne => by
                         unfold rtE
                         have : idx i s j ≠ q := fun e => hne (idx_inj hj hzn (by rw [e, ← HZ.out, idx_of hq]))
                         by_cases h : idx i s j < q
                         · rw [if_pos h, if_pos (by omega)]
                         · rw [if_neg h, if_neg (by omega)])
                       unfold kfn at this ⊢
                       rw [HY'.out] at this
                       exact this)
            · obtain rfl : q = i := by omega
              clear hqk HQK hq
              obtain rfl : c = q := by have := HC.out; omega
              have hAB : A = B := by
                refine (HKa.out.ext (E' := fun j => some (nth ts j)) (fun j hj => ?_)).uniq (HKb.out.ext (fun j hj => ?_))
                · unfold mxE; rw [if_pos hj]
                · unfold rtE; rw [if_pos]; unfold idx; exact Nat.mod_lt _ (by omega)
              subst hAB
              clear HC HKa HKb
              go_wp2_with fail
              go_loopg [19] c (fun gk vi wr => ∃ (q : Nat) (A : K → Option Int), vi = .int .i64 (q : Int) ∧ q + gk = c ∧ T2 S0 (fun _ => False) wr a b gk gk A A ∧ Below S0 w0 wr)
              case atStart => exact ⟨0, A, rfl, by omega, hT, bz⟩
              case round =>
                clear hT bz
                obtain ⟨q, A, rfl, hqk, hT, bz⟩ := hrel
                have HQK := Lib.hid hqk
                by_cases hq : q < c
                · obtain ⟨g1, hg1⟩ : ∃ g1, gk = g1 + 1 := ⟨gk - 1, by omega⟩
                  obtain ⟨X, hX⟩ := hT.fst
                  obtain ⟨k, t, hF⟩ := hX.1.fst (by omega)
                  have ht : t ≤ 9223372036854775807 := (wf_i64 t (hX.1.okA hF.1).1).2
                  have hqi : (q : Int) < (c : Int) := by omega
                  have hg9 : gk < 1073741824 := by omega
                  have HF := Lib.hid hF
                  have HG1 := Lib.hid hg1
                  have HTM := Lib.hid ht
                  have hsz : S0 ≤ wr.heap.size := by rw [← HS0.out]; exact bz.size
                  clear hX hF hg1 hqk ht
                  go_wp2_with fail
                  refine (p_next1 wr a b gk gk A A 9223372036854775807 hg9 k t HF.out HTM.out g1 HG1.out hT).mono ?_
                  rintro e w4 ⟨rfl, hT4, o4⟩
                  have b4 : Below S0 w0 w4 := bz.trans (Fr.below o4 hsz)
                  go_upto_region 36 with (fail)
                  have oB : Only w4 (w4.alloc (.cells #[.int .i64 k.1, .int .i64 k.2] 30)) (fun _ => False) := (Only.refl w4 _).alloc _
                  have HB := Lib.hid (heap_alloc_new w4 (.cells #[.int .i64 k.1, .int .i64 k.2] 30))
                  have hT5 := (hT4.more oB (fun j => j = w4.heap.size) (fun j q => Or.inr (by omega)) (fun j q => by rw [q]; exact lt_of_row HB.out)).swap
                  have hs4 : S0 ≤ w4.heap.size := by rw [← HS0.out]; exact b4.size
                  have b5 : Below S0 w0 (w4.alloc (.cells #[.int .i64 k.1, .int .i64 k.2] 30)) := b4.alloc hs4 _
                  obtain ⟨H, hH⟩ : ∃ H, w4.heap.size = H := ⟨_, rfl⟩
                  rw [hH] at HB hT5 hs4
                  rw [hH]
                  clear hH oB hT4
                  generalize w4.alloc (.cells #[.int .i64 k.1, .int .i64 k.2] 30) = w5 at HB hT5 b5 ⊢
                  go_wp2_with fail
                  refine (p_next1 w5 b a gk g1 A _ 9223372036854775807 hg9 k t HF.out HTM.out g1 HG1.out hT5).mono ?_
                  rintro e w6 ⟨rfl, hT6, o6⟩
                  have b6 : Below S0 w0 w6 := b5.trans (Fr.below o6 (by rw [← HS0.out]; exact b5.size))
                  have HB6 := Lib.hid (o6.blk (fun q => q.2 rfl) HB.out)
                  go_upto_region 37 with (fail)
                  have oC : Only w6 (w6.alloc (.cells #[.int .i64 k.1, .int .i64 k.2] 30)) (fun _ => False) := (Only.refl w6 _).alloc _
                  have HB7 := Lib.hid (oC.blk (fun q => q) HB6.out)
                  have HC7 := Lib.hid (heap_alloc_new w6 (.cells #[.int .i64 k.1, .int .i64 k.2] 30))
                  have hT7 := (hT6.more oC (fun _ => False) (fun j q => q.elim) (fun j q => q.elim)).swap
                  have b7 : Below S0 w0 (w6.alloc (.cells #[.int .i64 k.1, .int .i64 k.2] 30)) := b6.alloc (by rw [← HS0.out]; exact b6.size) _
                  generalize w6.heap.size = H2 at HC7 ⊢
                  generalize w6.alloc (.cells #[.int .i64 k.1, .int .i64 k.2] 30) = w7 at HB7 HC7 hT7 b7 oC ⊢
                  have x0 := cell_of_row _ _ 0 _ _ _ HB7.out
                  have x1 := cell_of_row _ _ 1 _ _ _ HB7.out
                  have y0 := cell_of_row _ _ 0 _ _ _ HC7.out
                  have y1 := cell_of_row _ _ 1 _ _ _ HC7.out
                  go_wp2_with fail
                  go_roundg g1
                  case measure => have := HG1.out; omega
                  case rel => exact ⟨q + 1, _, by go_num, by have := HG1.out; have := HQK.out; omega, hT7, b7⟩
                · obtain rfl : q = c := by omega
                  obtain rfl : gk = 0 := by omega
                  have hsz : S0 ≤ wr.heap.size := by rw [← HS0.out]; exact bz.size
                  go_wp2_with fail
                  refine (p_len wr a b 0 0 A A hT).mono ?_
                  rintro e w4 ⟨rfl, hT4, o4⟩
                  have b4 : Below S0 w0 w4 := bz.trans (Fr.below o4 hsz)
                  go_wp2_with fail
                  refine (p_len w4 b a 0 0 A A hT4.swap).mono ?_
                  rintro e w5 ⟨rfl, hT5, o5⟩
                  have b5 : Below S0 w0 w5 := b4.trans (Fr.below o5 (by rw [← HS0.out]; exact b4.size))
                  go_wp2_with fail
                  go_ret
                  exact ⟨rfl, HLOW.out _ b5⟩
end Go.Proofs.Ytkldoeillkfpbaa.W.HT
