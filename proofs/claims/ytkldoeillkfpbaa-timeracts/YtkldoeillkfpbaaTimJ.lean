/- The law TimerActs. -/
import Derived.Test.YtkldoeillkfpbaaTimI
import Derived.Test.YtkldoeillkfpbaaTimF
import Derived.Test.YtkldoeillkfpbaaActs
import Derived.Deep.DeepCutAuto
import Derived.Deep.CutBlock
namespace Go.Proofs.Ytkldoeillkfpbaa.W.HT
open Go.RowKit

theorem o_drop0 {S0 : Nat} {L : Nat → Prop} (w : World) (c n : Nat) (A : K → Option Int) (k : K) (hk : kw k) (hA : A k = none) (h : T1 S0 L w c n A) :
    Calls Try.prog 12 #[.pointer (some ⟨c, 0, none⟩), kv k] w fun e w' => e = .returned (.bool false) ∧ T1 S0 L w' c n A ∧ Fr S0 L w w' := by
  obtain ⟨X, h1, h2, h3, h4⟩ := h
  refine (x_drop0 w c n A X k hk hA h1).mono ?_
  rintro e w' ⟨rfl, g⟩
  exact ⟨rfl, T1.step h2 h3 h4 g⟩
theorem o_drop {S0 : Nat} {L : Nat → Prop} (w : World) (c n : Nat) (A : K → Option Int) (k : K) (t : Int) (hA : A k = some t) (hn : n < 1073741824) (n1 : Nat) (hn1 : n = n1 + 1) (h : T1 S0 L w c n A) :
    Calls Try.prog 12 #[.pointer (some ⟨c, 0, none⟩), kv k] w fun e w' => e = .returned (.bool true) ∧ T1 S0 L w' c n1 (updZ A k none) ∧ Fr S0 L w w' := by
  obtain ⟨X, h1, h2, h3, h4⟩ := h
  refine (x_drop w c n A X k t hA hn n1 hn1 h1).mono ?_
  rintro e w' ⟨rfl, g⟩
  exact ⟨rfl, T1.step h2 h3 h4 g⟩
theorem o_at {S0 : Nat} {L : Nat → Prop} (w : World) (c n : Nat) (A : K → Option Int) (k : K) (hk : kw k) (hn : n < 1073741824) (h : T1 S0 L w c n A) :
    Calls Try.prog 18 #[.pointer (some ⟨c, 0, none⟩), kv k] w fun e w' => e = .returned (.tuple #[.int .i64 ((A k).getD 0), .bool (A k).isSome]) ∧ T1 S0 L w' c n A ∧ Fr S0 L w w' := by
  obtain ⟨X, h1, h2, h3, h4⟩ := h
  refine (x_at w c n A X k hk hn h1).mono ?_
  rintro e w' ⟨rfl, g⟩
  exact ⟨rfl, T1.step h2 h3 h4 g⟩
theorem o_next0 {S0 : Nat} {L : Nat → Prop} (w : World) (c n : Nat) (A : K → Option Int) (now : Int) (hn : n < 1073741824) (h0 : ∀ k t, A k = some t → now < t) (h : T1 S0 L w c n A) :
    Calls Try.prog 14 #[.pointer (some ⟨c, 0, none⟩), .int .i64 now] w fun e w' => e = .returned (.tuple #[.agg #[.int .i64 0, .int .i64 0], .bool false]) ∧ T1 S0 L w' c n A ∧ Fr S0 L w w' := by
  obtain ⟨X, h1, h2, h3, h4⟩ := h
  refine (x_next0 w c n A X now hn h0 h1).mono ?_
  rintro e w' ⟨rfl, g⟩
  exact ⟨rfl, T1.step h2 h3 h4 g⟩
theorem o_next1 {S0 : Nat} {L : Nat → Prop} (w : World) (c n : Nat) (A : K → Option Int) (now : Int) (hn : n < 1073741824) (k : K) (t : Int) (hF : Fst A k t) (ht : t ≤ now) (n1 : Nat) (hn1 : n = n1 + 1) (h : T1 S0 L w c n A) :
    Calls Try.prog 14 #[.pointer (some ⟨c, 0, none⟩), .int .i64 now] w fun e w' => e = .returned (.tuple #[kv k, .bool true]) ∧ T1 S0 L w' c n1 (updZ A k none) ∧ Fr S0 L w w' := by
  obtain ⟨X, h1, h2, h3, h4⟩ := h
  refine (x_next1 w c n A X now hn k t hF ht n1 hn1 h1).mono ?_
  rintro e w' ⟨rfl, g⟩
  exact ⟨rfl, T1.step h2 h3 h4 g⟩
theorem T1.ok {S0 : Nat} {L : Nat → Prop} {w : World} {c n : Nat} {A : K → Option Int} (h : T1 S0 L w c n A) {k : K} {t : Int} (hk : A k = some t) : kw k ∧ ∃ n1, n = n1 + 1 := by
  obtain ⟨X, h1, _⟩ := h
  exact ⟨(h1.1.okA hk).2.1, h1.pos hk⟩
/-- Timers and a map, an act and its key in boxes, and other boxes beside. -/
structure Sx (S0 : Nat) (L : Nat → Prop) (w : World) (c mb q z n nm : Nat) (A Am : K → Option Int) (cs : List Value) (k : K) : Prop where
  t : T1 S0 (fun j => L j ∨ j = mb ∨ j = q ∨ j = z) w c n A
  mp : Mp Try.prog 30 w mb (MV Am) nm
  bq : w.heap[q]? = some (.cells cs.toArray 28 (0, 0))
  bk : w.heap[z]? = some (.cells #[.int .i64 k.1, .int .i64 k.2] 30 (0, 0))
  ne : mb ≠ q ∧ mb ≠ z ∧ ¬ L mb ∧ ¬ L q ∧ ¬ L z
  lo : S0 ≤ mb ∧ S0 ≤ w.heap.size
theorem Sx.called {S0 : Nat} {L : Nat → Prop} {w w' : World} {c mb q z n nm : Nat} {A Am : K → Option Int} {cs : List Value} {k : K} {n' : Nat} {A' : K → Option Int} (h : Sx S0 L w c mb q z n nm A Am cs k) (ht : T1 S0 (fun j => L j ∨ j = mb ∨ j = q ∨ j = z) w' c n' A') (fr : Fr S0 (fun j => L j ∨ j = mb ∨ j = q ∨ j = z) w w') : Sx S0 L w' c mb q z n' nm A' Am cs k ∧ Below S0 w w' :=
  ⟨⟨ht, h.mp.kept fr (fun e => e.2 (Or.inr (Or.inl rfl))), fr.blk (fun e => e.2 (Or.inr (Or.inr (Or.inl rfl)))) h.bq, fr.blk (fun e => e.2 (Or.inr (Or.inr (Or.inr rfl)))) h.bk, h.ne, h.lo.1, Nat.le_trans h.lo.2 fr.size⟩, Fr.below fr h.lo.2⟩
theorem Sx.still {S0 : Nat} {L : Nat → Prop} {w w' : World} {c mb q z n nm : Nat} {A Am : K → Option Int} {cs : List Value} {k : K} (h : Sx S0 L w c mb q z n nm A Am cs k) (o : Only w w' (fun _ => False)) : Sx S0 L w' c mb q z n nm A Am cs k ∧ Below S0 w w' :=
  ⟨⟨h.t.kept o (fun _ e => e.elim), h.mp.kept o (fun e => e), o.blk (fun e => e) h.bq, o.blk (fun e => e) h.bk, h.ne, h.lo.1, Nat.le_trans h.lo.2 o.size⟩, o.below (fun _ e => e.elim) h.lo.2⟩
theorem Sx.below {S0 : Nat} {L : Nat → Prop} {w w' : World} {c mb q z n nm : Nat} {A Am : K → Option Int} {cs : List Value} {k : K} (h : Sx S0 L w c mb q z n nm A Am cs k) (b : Below w.heap.size w w') : Sx S0 L w' c mb q z n nm A Am cs k ∧ Below S0 w w' := h.still (Only.of_below b)
theorem Sx.mapped {S0 : Nat} {L : Nat → Prop} {w w' : World} {c mb q z n nm : Nat} {A Am : K → Option Int} {cs : List Value} {k : K} {nm' : Nat} {Am' : K → Option Int} (h : Sx S0 L w c mb q z n nm A Am cs k) (hg : w.grownBy w' (some mb)) (hm : Mp Try.prog 30 w' mb (MV Am') nm') : Sx S0 L w' c mb q z n nm' A Am' cs k ∧ Below S0 w w' := by
  have o : Only w w' (fun j => j = mb) := Only.grown hg (Or.inl rfl)
  exact ⟨⟨h.t.kept o (fun _ e => Or.inr (Or.inl e)), hm, o.blk (fun e => h.ne.1 e.symm) h.bq, o.blk (fun e => h.ne.2.1 e.symm) h.bk, h.ne, h.lo.1, Nat.le_trans h.lo.2 o.size⟩, o.below (fun j e => by rw [e]; exact h.lo.1) h.lo.2⟩
theorem Sx.poke {S0 : Nat} {L : Nat → Prop} {w w' : World} {c mb q z n nm : Nat} {A Am : K → Option Int} {cs : List Value} {k : K} {g : Nat} (h : Sx S0 L w c mb q z n nm A Am cs k) (hL : L g) (hg0 : S0 ≤ g) (hg : w.grownBy w' (some g)) : Sx S0 L w' c mb q z n nm A Am cs k ∧ Below S0 w w' := by
  have o : Only w w' (fun j => j = g) := Only.grown hg (Or.inl rfl)
  exact ⟨⟨h.t.kept o (fun _ e => Or.inl (by rw [e]; exact hL)), h.mp.kept o (fun e => h.ne.2.2.1 (by rw [e]; exact hL)), o.blk (fun e => h.ne.2.2.2.1 (by rw [e]; exact hL)) h.bq, o.blk (fun e => h.ne.2.2.2.2 (by rw [e]; exact hL)) h.bk, h.ne, h.lo.1, Nat.le_trans h.lo.2 o.size⟩, o.below (fun j e => by rw [e]; exact hg0) h.lo.2⟩
theorem Sx.more {S0 : Nat} {L : Nat → Prop} {w w' : World} {c mb q z n nm : Nat} {A Am : K → Option Int} {cs : List Value} {k : K} (h : Sx S0 L w c mb q z n nm A Am cs k) (o : Only w w' (fun _ => False)) (L' : Nat → Prop) (hL : ∀ j, L' j → L j ∨ w.heap.size ≤ j) (hl : ∀ j, L' j → j < w'.heap.size) : Sx S0 L' w' c mb q z n nm A Am cs k ∧ Below S0 w w' := by
  have h1 := h.mp.lt
  have h2 := lt_of_row h.bq
  have h3 := lt_of_row h.bk
  refine ⟨⟨h.t.more o _ (fun j e => ?_) (fun j e => ?_), h.mp.kept o (fun e => e), o.blk (fun e => e) h.bq, o.blk (fun e => e) h.bk, ⟨h.ne.1, h.ne.2.1, fun e => (hL _ e).elim h.ne.2.2.1 (fun e => by omega), fun e => (hL _ e).elim h.ne.2.2.2.1 (fun e => by omega), fun e => (hL _ e).elim h.ne.2.2.2.2 (fun e => by omega)⟩, h.lo.1, Nat.le_trans h.lo.2 o.size⟩, o.below (fun _ e => e.elim) h.lo.2⟩
  · rcases e with e | e
    · exact (hL j e).imp Or.inl id
    · exact Or.inl (Or.inr e)
  · have := o.size
    rcases e with e | e | e | e
    · exact hl j e
    · omega
    · omega
    · omega
theorem Sx.less {S0 : Nat} {L : Nat → Prop} {w : World} {c mb q z n nm : Nat} {A Am : K → Option Int} {cs : List Value} {k : K} {L' : Nat → Prop} (h : Sx S0 L w c mb q z n nm A Am cs k) (hL : ∀ j, L' j → L j) : Sx S0 L' w c mb q z n nm A Am cs k :=
  ⟨h.t.less (fun j e => e.imp (hL j) id), h.mp, h.bq, h.bk, ⟨h.ne.1, h.ne.2.1, fun e => h.ne.2.2.1 (hL _ e), fun e => h.ne.2.2.2.1 (hL _ e), fun e => h.ne.2.2.2.2 (hL _ e)⟩, h.lo⟩
/-- Timers and a map that hold the same. -/
structure Ms (S0 : Nat) (w : World) (c mb n : Nat) (A : K → Option Int) : Prop where
  t : T1 S0 (fun j => j = mb) w c n A
  mp : Mp Try.prog 30 w mb (MV A) n
  lo : S0 ≤ mb
theorem Ms.box {S0 : Nat} {w : World} {c mb n : Nat} {A : K → Option Int} (h : Ms S0 w c mb n A) (cs : List Value) (k : K) :
    Sx S0 (fun _ => False) ((w.alloc (.cells cs.toArray 28)).alloc (.cells #[.int .i64 k.1, .int .i64 k.2] 30)) c mb w.heap.size (w.heap.size + 1) n n A A cs k ∧ Below S0 w ((w.alloc (.cells cs.toArray 28)).alloc (.cells #[.int .i64 k.1, .int .i64 k.2] 30)) := by
  have o : Only w ((w.alloc (.cells cs.toArray 28)).alloc (.cells #[.int .i64 k.1, .int .i64 k.2] 30)) (fun _ => False) := ((Only.refl w _).alloc _).alloc _
  have h1 := h.mp.lt
  have h2 : S0 ≤ w.heap.size := by obtain ⟨X, _, _, h3, _⟩ := h.t; exact h3
  have hs : ((w.alloc (.cells cs.toArray 28)).alloc (.cells #[.int .i64 k.1, .int .i64 k.2] 30)).heap.size = w.heap.size + 2 := by rw [World.size_alloc, World.size_alloc]
  refine ⟨⟨h.t.more o _ (fun j e => ?_) (fun j e => ?_), h.mp.kept o (fun e => e), (Only.alloc (Only.refl (w.alloc (.cells cs.toArray 28)) (fun _ => False)) _).blk (fun e => e) (heap_alloc_new w _), by have := heap_alloc_new (w.alloc (.cells cs.toArray 28)) (.cells #[.int .i64 k.1, .int .i64 k.2] 30); rwa [World.size_alloc] at this, ⟨by omega, by omega, fun e => e, fun e => e, fun e => e⟩, h.lo, by omega⟩, o.below (fun _ e => e.elim) h2⟩
  · rcases e with e | e | e | e
    · exact e.elim
    · exact Or.inl e
    · exact Or.inr (by omega)
    · exact Or.inr (by omega)
  · rw [hs]
    rcases e with e | e | e | e
    · exact e.elim
    · omega
    · omega
    · omega
theorem Sx.unbox {S0 : Nat} {L : Nat → Prop} {w : World} {c mb q z n : Nat} {A : K → Option Int} {cs : List Value} {k : K} (h : Sx S0 L w c mb q z n n A A cs k) : Ms S0 w c mb n A := ⟨h.t.less (fun _ e => Or.inr (Or.inl e)), h.mp, h.lo.1⟩
theorem updK_gone {α : Type} (A : K → Option α) (k : K) (h : A k = none) : updZ A k none = A := by
  funext j; unfold updZ; split
  · rename_i e; rw [e, h]
  · rfl

theorem Tk.subs {Zf : Nat → K → Option Int} {F : Nat → K} {m : Nat} (hs : ∀ i, i < m → Zf (i + 1) = updZ (Zf i) (F i) none) {k : K} {t : Int} : ∀ i, i ≤ m → Zf i k = some t → Zf 0 k = some t := by
  intro i
  induction i with
  | zero => exact fun _ e => e
  | succ i ih =>
    intro hi e
    rw [hs i (by omega)] at e
    by_cases h : k = F i
    · rw [h, updZ_same] at e; cases e
    · rw [updZ_ne _ _ h] at e; exact ih (by omega) e
theorem Sx.due {S0 : Nat} {w w' : World} {c mb q z n nm n' : Nat} {A Am B : K → Option Int} {cs : List Value} {k : K} {G : Option Nat} (h : Sx S0 (fun _ => False) w c mb q z n nm A Am cs k) (ht : T1 S0 (fun j => (False ∨ j = mb ∨ j = q ∨ j = z) ∨ G = some j) w' c n' B) (hG : ∀ g, G = some g → w.heap.size ≤ g) (fr : Fr S0 (fun j => False ∨ j = mb ∨ j = q ∨ j = z) w w') :
    Sx S0 (fun j => G = some j) w' c mb q z n' nm B Am cs k ∧ Below S0 w w' := by
  have h1 := h.mp.lt
  have h2 := lt_of_row h.bq
  have h3 := lt_of_row h.bk
  obtain ⟨g1, g2⟩ := h.called (ht.less (fun j e => Or.inl e)) fr
  exact ⟨⟨ht.less (fun j e => e.elim Or.inr (fun e => Or.inl (Or.inr e))), g1.mp, g1.bq, g1.bk, ⟨h.ne.1, h.ne.2.1, fun e => by have := hG _ e; omega, fun e => by have := hG _ e; omega, fun e => by have := hG _ e; omega⟩, g1.lo⟩, g2⟩

set_option maxRecDepth 100000 in
set_option maxHeartbeats 6400000 in
theorem tacts_walk (a0 : Option Addr) (k cap : Nat) (Z : Nat → Int) (_hc : k ≤ cap) (w : World) (L : Lies w w.heap.size a0 (zs Z (k * 4))) (wf : ∀ j, j < k * 4 → (Lit.int .i64 (Z j)).wf = true) :
    Calls Try.prog 3 #[.slice a0 k cap] w fun e w' => e = .returned (.bool true) ∧ Below w.heap.size w w' := by
  by_cases hk : 100 < k
  · have hki : decide ((100 : Int) < (k : Int)) = true := by simp; omega
    go_enter Try.func3, Try.ntmps3
    go_wp2_with fail
    refine (head14 _).mono ?_
    rintro e w1 ⟨rfl, b1⟩
    go_wp2_with fail
    go_ret
    exact ⟨rfl, b1⟩
  · have hki : decide ((100 : Int) < (k : Int)) = false := by simp; omega
    have hmm := @run_makeMap Try.prog
    go_enter Try.func3, Try.ntmps3
    go_wp2_with fail
    refine (head14 _).mono ?_
    rintro e w1 ⟨rfl, b1⟩
    go_wp2_with fail
    refine (x_new w1).mono ?_
    rintro e w2 ⟨rfl, h2, b2⟩
    go_upto_region 7 with (fail)
    have b3 : Below w.heap.size w (w2.alloc (.map #[] 0)) := (b1.trans (b2.mono b1.size)).alloc (b1.trans (b2.mono b1.size)).size _
    have h3 : Ms w.heap.size (w2.alloc (.map #[] 0)) w1.heap.size w2.heap.size 0 (fun _ => none) := by
      have hb1 := b1.size
      have hb2 := b2.size
      have hlt := h2.lt
      refine ⟨⟨_, h2.box _, fun j e => ⟨by omega, by omega⟩, b3.size, fun j e => by rw [World.size_alloc]; omega⟩, Mp.made _ _ _, by omega⟩
    obtain ⟨c, hc⟩ : ∃ c, w1.heap.size = c := ⟨_, rfl⟩
    obtain ⟨mb, hmb⟩ : ∃ mb, w2.heap.size = mb := ⟨_, rfl⟩
    rw [hc, hmb] at h3
    rw [hc, hmb]
    clear h2 b1 b2 hc hmb hki hmm
    generalize w2.alloc (.map #[] 0) = w3 at h3 b3 ⊢
    go_wp2_with fail
    go_loopg [37] k (fun gk vi wr => ∃ (i n : Nat) (A : K → Option Int), vi = .int .i64 (i : Int) ∧ i + gk = k ∧ Ms w.heap.size wr c mb n A ∧ n ≤ i ∧ Below w.heap.size w wr)
    case atStart => exact ⟨0, 0, _, rfl, by omega, h3, by omega, b3⟩
    case round =>
      clear h3 b3
      obtain ⟨i, n, A, rfl, hik, hz, hni, bz⟩ := hrel
      have HIK := Lib.hid hik
      by_cases hi : i < k
      · obtain ⟨ad, ha, hab, hcell⟩ := (L.below bz (Nat.le_refl _)).num (j := i * 4) (by omega)
        have hii : (i : Int) < (k : Int) := by omega
        have x0 := hcell (i * 4) (by omega)
        have x1 := cell_in (c := 0) (hcell (i * 4 + 1) (by omega))
        have x2 := cell_in (c := 1) (hcell (i * 4 + 2) (by omega))
        have x3 := cell_in (c := 2) (hcell (i * 4 + 3) (by omega))
        rw [Nat.zero_add] at x1
        rw [show (1 : Nat) + 1 = 2 from rfl] at x2
        rw [show (2 : Nat) + 1 = 3 from rfl] at x3
        have wk := wf (i * 4 + 1) (by omega)
        have wi := wf (i * 4 + 2) (by omega)
        have wt := wf (i * 4 + 3) (by omega)
        obtain ⟨zo, hzo⟩ : ∃ z, Z (i * 4) = z := ⟨_, rfl⟩
        obtain ⟨zk, hzk⟩ : ∃ z, Z (i * 4 + 1) = z := ⟨_, rfl⟩
        obtain ⟨zi, hzi⟩ : ∃ z, Z (i * 4 + 2) = z := ⟨_, rfl⟩
        obtain ⟨zt, hzt⟩ : ∃ z, Z (i * 4 + 3) = z := ⟨_, rfl⟩
        rw [hzo] at x0
        rw [hzk] at x1 wk
        rw [hzi] at x2 wi
        rw [hzt] at x3 wt
        subst ha
        have hkw : kw (zk, zi) := ⟨wk, wi⟩
        clear hcell hik hzo hzk hzi hzt
        obtain ⟨od, hod, hod8⟩ := and_nat zo 7 3 8 (by decide) (by decide) (by decide)
        obtain ⟨hx, bx0⟩ := hz.box [.int .i64 zo, .int .i64 zk, .int .i64 zi, .int .i64 zt] (zk, zi)
        have bx := bz.trans bx0
        clear bx0 hz
        go_upto_block 2 with (fail)
        clear x0 x1 x2 x3 hod
        obtain ⟨qb, hqb⟩ : ∃ q, wr.heap.size = q := ⟨_, rfl⟩
        obtain ⟨zb, hzb⟩ : ∃ q, wr.heap.size + 1 = q := ⟨_, rfl⟩
        rw [hzb, hqb] at hx
        dsimp only at hx bx
        rw [hzb, hqb]
        clear hqb hzb bz
        generalize (wr.alloc (.cells #[.int .i64 zo, .int .i64 zk, .int .i64 zi, .int .i64 zt] 28)).alloc (.cells #[.int .i64 zk, .int .i64 zi] 30) = w4 at hx bx ⊢
        have hq0 : w.heap.size ≤ w4.heap.size := bx.size
        go_cut [] (fun wc => ∃ (n' : Nat) (A' : K → Option Int), Ms w.heap.size wc c mb n' A' ∧ n' ≤ i + 1 ∧ Below w.heap.size w wc)
        case first =>
          have y3 := cell_of_row _ _ 3 _ _ _ hx.bq
          have k0 := cell_of_row _ _ 0 _ _ _ hx.bk
          have k1 := cell_of_row _ _ 1 _ _ _ hx.bk
          have hkk : od = 2 ∨ od = 3 ∨ od = 4 ∨ (od ≠ 2 ∧ od ≠ 3 ∧ od ≠ 4) := by omega
          rcases hkk with rfl | rfl | rfl | hkk
          · -- drop
            cases hA : A (zk, zi) with
            | none =>
              have HA := Lib.hid hA
              clear hA
              have HUP := Lib.hid (updK_gone A (zk, zi) HA.out)
              go_wp2_with (at_lookup; refine wpList_mp_none rfl (.tmp 61) (.tmp 62) 26 rfl 30 2 kd Try.underlying26 (zeroL _) mb _ n rfl hx.mp (zk, zi) rfl hkw (MV_no HA.out) ?_)
              refine (o_drop0 w4 c n A (zk, zi) hkw HA.out hx.t).mono ?_
              rintro e w5 ⟨rfl, ht5, fr5⟩
              obtain ⟨hx5, b5⟩ := hx.called ht5 fr5
              clear y3 k0 k1
              have k0 := cell_of_row _ _ 0 _ _ _ hx5.bk
              have k1 := cell_of_row _ _ 1 _ _ _ hx5.bk
              go_wp2_with (at_delete; refine wpList_mp_del rfl (.tmp 71) (.tmp 72) 26 30 rfl 2 kd Try.underlying26 mb _ n rfl hx5.mp (zk, zi) rfl hkw n (by rw [MV_is, HA.out]; rfl) ?_; intro w6 hm6 hg6)
              rw [← MV_del, HUP.out] at hm6
              obtain ⟨hx6, b6⟩ := hx5.mapped hg6 hm6
              go_meet
              exact ⟨n, A, hx6.unbox, by omega, bx.trans (b5.trans b6)⟩
            | some u =>
              obtain ⟨n1, hn1⟩ := (hx.t.ok hA).2
              have HA := Lib.hid hA
              have HN1 := Lib.hid hn1
              clear hA hn1
              go_wp2_with (at_lookup; refine wpList_mp_some rfl (.tmp 61) (.tmp 62) 26 rfl 30 2 kd Try.underlying26 (zeroL _) mb _ n rfl hx.mp (zk, zi) rfl hkw (.int .i64 u) (MV_at HA.out) ?_)
              refine (o_drop w4 c n A (zk, zi) u HA.out (by omega) n1 HN1.out hx.t).mono ?_
              rintro e w5 ⟨rfl, ht5, fr5⟩
              obtain ⟨hx5, b5⟩ := hx.called ht5 fr5
              clear y3 k0 k1
              have k0 := cell_of_row _ _ 0 _ _ _ hx5.bk
              have k1 := cell_of_row _ _ 1 _ _ _ hx5.bk
              go_wp2_with (at_delete; refine wpList_mp_del rfl (.tmp 71) (.tmp 72) 26 30 rfl 2 kd Try.underlying26 mb _ n rfl hx5.mp (zk, zi) rfl hkw n1 (by rw [MV_is, HA.out, HN1.out]; rfl) ?_; intro w6 hm6 hg6)
              rw [← MV_del] at hm6
              obtain ⟨hx6, b6⟩ := hx5.mapped hg6 hm6
              go_meet
              exact ⟨n1, _, hx6.unbox, by have := HN1.out; omega, bx.trans (b5.trans b6)⟩
          · -- next
            have hAk : ∀ z t, A z = some t → kw z := fun z t e => (hx.t.ok e).1
            have HAK := Lib.hid hAk
            go_wp2_with fail
            refine (first_any w4 mb n A hx.mp hAk).mono ?_
            rintro e w5 ⟨kF, bF, rfl, hFi, b5⟩
            clear hAk
            obtain ⟨hx5, bb5⟩ := hx.below b5
            go_upto_region 21 with (fail)
            have o6 : Only w5 (w5.alloc (.cells #[.int .i64 kF.1, .int .i64 kF.2] 30)) (fun _ => False) := (Only.refl w5 _).alloc _
            have HW6 := Lib.hid (heap_alloc_new w5 (.cells #[.int .i64 kF.1, .int .i64 kF.2] 30))
            obtain ⟨hx6, bb6⟩ := hx5.more o6 (fun j => j = w5.heap.size) (fun j e => Or.inr (by omega)) (fun j e => by rw [e]; exact lt_of_row HW6.out)
            have hW0 : w.heap.size ≤ w5.heap.size := Nat.le_trans hq0 b5.size
            have bx6 := bx.trans (bb5.trans bb6)
            clear y3 k0 k1 hx hx5 bb5 bb6 bx
            obtain ⟨W1, hW1⟩ : ∃ W1, w5.heap.size = W1 := ⟨_, rfl⟩
            rw [hW1] at HW6 hx6 hW0
            rw [hW1]
            clear hW1
            generalize w5.alloc (.cells #[.int .i64 kF.1, .int .i64 kF.2] 30) = w6 at HW6 hx6 o6 bx6 ⊢
            have y3 := cell_of_row _ _ 3 _ _ _ hx6.bq
            have v0 := cell_of_row _ _ 0 _ _ _ HW6.out
            have v1 := cell_of_row _ _ 1 _ _ _ HW6.out
            rcases hFi with ⟨rfl, t, hF⟩ | ⟨rfl, rfl, hE⟩
            · have hkF := HAK.out kF t hF.1
              obtain ⟨n1, hn1⟩ := (hx6.t.ok hF.1).2
              have HN1 := Lib.hid hn1
              have HMT := Lib.hid (MV_at hF.1)
              have HF := Lib.hid hF
              clear hF hn1
              have hrun : ∀ y, (Instr.lookup 26 (.map (some mb)) (.agg #[.int .i64 kF.1, .int .i64 kF.2]) false).run Try.prog (w6.drewN y) = .ok (.int .i64 t) (w6.drewN y) := fun y => by rw [(hx6.mp.kept ((Only.refl w6 (fun _ => False)).drewN y) (fun q => q)).run_at kd Try.underlying26 (zeroL _) hkF]; simp [HMT.out]
              have hrun1 : (Instr.lookup 26 (.map (some mb)) (.agg #[.int .i64 kF.1, .int .i64 kF.2]) false).run Try.prog w6.drew = .ok (.int .i64 t) w6.drew := hrun 1
              have hrun0 : (Instr.lookup 26 (.map (some mb)) (.agg #[.int .i64 kF.1, .int .i64 kF.2]) false).run Try.prog w6 = .ok (.int .i64 t) w6 := hrun 0
              by_cases hle : t ≤ zt
              · have hdt : decide (zt < t) = false := by simp; omega
                go_quiet (fail)
                have oq : Only w6 (w6.drewN nq) (fun _ => False) := (Only.refl w6 _).drewN nq
                obtain ⟨hx7, bbw7⟩ := hx6.still oq
                have HW7 := Lib.hid (oq.blk (fun q => q) HW6.out)
                generalize w6.drewN nq = w7 at hx7 bbw7 HW7 oq ⊢
                clear hrun hrun1 hrun0 y3 v0 v1
                have y3 := cell_of_row _ _ 3 _ _ _ hx7.bq
                go_wp2_with fail
                refine (o_next1 w7 c n A zt (by omega) kF t HF.out hle n1 HN1.out hx7.t).mono ?_
                rintro e w8 ⟨rfl, ht8, fr8⟩
                obtain ⟨hx8, bb8⟩ := hx7.called ht8 fr8
                have HW8 := Lib.hid (fr8.blk (fun e => e.2 (Or.inl rfl)) HW7.out)
                go_upto_region 25 with (fail)
                have og : Only w8 (w8.alloc (.cells #[.int .i64 kF.1, .int .i64 kF.2] 30)) (fun _ => False) := (Only.refl w8 _).alloc _
                have HG9 := Lib.hid (heap_alloc_new w8 (.cells #[.int .i64 kF.1, .int .i64 kF.2] 30))
                obtain ⟨hx9, bbw9⟩ := hx8.still og
                have HW9 := Lib.hid (og.blk (fun q => q) HW8.out)
                generalize w8.heap.size = H9 at HG9 ⊢
                generalize w8.alloc (.cells #[.int .i64 kF.1, .int .i64 kF.2] 30) = w9 at hx9 bbw9 HW9 HG9 og ⊢
                have v0 := cell_of_row _ _ 0 _ _ _ HW9.out
                have v1 := cell_of_row _ _ 1 _ _ _ HW9.out
                have g0 := cell_of_row _ _ 0 _ _ _ HG9.out
                have g1 := cell_of_row _ _ 1 _ _ _ HG9.out
                go_wp2_with (at_delete; refine wpList_mp_del rfl (.tmp 106) (.tmp 107) 26 30 rfl 2 kd Try.underlying26 mb _ n rfl hx9.mp kF rfl hkF n1 (by rw [HMT.out, HN1.out]; rfl) ?_; intro w10 hm10 hg10)
                rw [← MV_del] at hm10
                obtain ⟨hx10, bb10⟩ := hx9.mapped hg10 hm10
                go_meet
                exact ⟨n1, _, hx10.unbox, by have := HN1.out; omega, bx6.trans (bbw7.trans (bb8.trans (bbw9.trans bb10)))⟩
              · have hdt : decide (zt < t) = true := by simp; omega
                have HLE := Lib.hid hle
                clear hle
                go_quiet (fail)
                have oq : Only w6 (w6.drewN nq) (fun _ => False) := (Only.refl w6 _).drewN nq
                obtain ⟨hx7, bbw7⟩ := hx6.still oq
                have HW7 := Lib.hid (oq.blk (fun q => q) HW6.out)
                generalize w6.drewN nq = w7 at hx7 bbw7 HW7 oq ⊢
                clear hrun hrun1 hrun0 y3 v0 v1
                go_upto_region 24 with (with_reducible refine wpList_store_key rfl (.tmp 10) (.tmp 89) rfl W1 0 0 rfl rfl kF.1 kF.2 HW7 ?_; intro w8 HW8 hg8)
                obtain ⟨hx8, bb8⟩ := hx7.poke rfl hW0 hg8
                have y3 := cell_of_row _ _ 3 _ _ _ hx8.bq
                go_wp2_with fail
                refine (o_next0 w8 c n A zt (by omega) (fun k' t' e => by have h1 := HF.out.le e; have h2 := HLE.out; omega) hx8.t).mono ?_
                rintro e w9 ⟨rfl, ht9, fr9⟩
                obtain ⟨hx9, bb9⟩ := hx8.called ht9 fr9
                have HW9 := Lib.hid (fr9.blk (fun e => e.2 (Or.inl rfl)) HW8.out)
                go_upto_region 25 with (fail)
                have og : Only w9 (w9.alloc (.cells #[.int .i64 0, .int .i64 0] 30)) (fun _ => False) := (Only.refl w9 _).alloc _
                have HG9 := Lib.hid (heap_alloc_new w9 (.cells #[.int .i64 0, .int .i64 0] 30))
                obtain ⟨hx10, bbw10⟩ := hx9.still og
                have HW10 := Lib.hid (og.blk (fun q => q) HW9.out)
                generalize w9.heap.size = H9 at HG9 ⊢
                generalize w9.alloc (.cells #[.int .i64 0, .int .i64 0] 30) = w10 at hx10 bbw10 HW10 HG9 og ⊢
                have v0 := cell_of_row _ _ 0 _ _ _ HW10.out
                have v1 := cell_of_row _ _ 1 _ _ _ HW10.out
                have g0 := cell_of_row _ _ 0 _ _ _ HG9.out
                have g1 := cell_of_row _ _ 1 _ _ _ HG9.out
                go_wp2_with fail
                go_meet
                exact ⟨n, A, hx10.unbox, by omega, bx6.trans (bbw7.trans (bb8.trans (bb9.trans bbw10)))⟩
            · have HE := Lib.hid hE
              clear hE
              go_quiet (fail)
              have oq : Only w6 (w6.drewN nq) (fun _ => False) := (Only.refl w6 _).drewN nq
              obtain ⟨hx7, bbw7⟩ := hx6.still oq
              have HW7 := Lib.hid (oq.blk (fun q => q) HW6.out)
              generalize w6.drewN nq = w7 at hx7 bbw7 HW7 oq ⊢
              clear y3 v0 v1
              have y3 := cell_of_row _ _ 3 _ _ _ hx7.bq
              go_wp2_with fail
              refine (o_next0 w7 c n A zt (by omega) (fun k' t' e => by rw [HE.out k'] at e; cases e) hx7.t).mono ?_
              rintro e w9 ⟨rfl, ht9, fr9⟩
              obtain ⟨hx9, bb9⟩ := hx7.called ht9 fr9
              have HW9 := Lib.hid (fr9.blk (fun e => e.2 (Or.inl rfl)) HW7.out)
              go_upto_region 25 with (fail)
              have og : Only w9 (w9.alloc (.cells #[.int .i64 0, .int .i64 0] 30)) (fun _ => False) := (Only.refl w9 _).alloc _
              have HG9 := Lib.hid (heap_alloc_new w9 (.cells #[.int .i64 0, .int .i64 0] 30))
              obtain ⟨hx10, bbw10⟩ := hx9.still og
              have HW10 := Lib.hid (og.blk (fun q => q) HW9.out)
              generalize w9.heap.size = H9 at HG9 ⊢
              generalize w9.alloc (.cells #[.int .i64 0, .int .i64 0] 30) = w10 at hx10 bbw10 HW10 HG9 og ⊢
              have v0 := cell_of_row _ _ 0 _ _ _ HW10.out
              have v1 := cell_of_row _ _ 1 _ _ _ HW10.out
              have g0 := cell_of_row _ _ 0 _ _ _ HG9.out
              have g1 := cell_of_row _ _ 1 _ _ _ HG9.out
              go_wp2_with fail
              go_meet
              exact ⟨n, A, hx10.unbox, by omega, bx6.trans (bbw7.trans (bb9.trans bbw10))⟩
          · -- due
            have hAk : ∀ z t, A z = some t → kw z := fun z t e => (hx.t.ok e).1
            have HAK := Lib.hid hAk
            clear hAk
            go_wp2_with fail
            refine (o_due w4 c n A zt (by omega) hx.t).mono ?_
            rintro e w5 ⟨sv, G, m, n', F, B, rfl, its, hTk, hl, hnm, ht5, hG, fr5⟩
            obtain ⟨hx5, bb5⟩ := hx.due ht5 hG fr5
            obtain ⟨Zf, hZ0, hZm, hZs⟩ := hTk
            obtain ⟨sA, scap, rfl, hc1, hc2⟩ := its.slice
            have hx5' : Sx w.heap.size (fun j => G = some j) w5 c mb qb zb n' (n' + m) B (Zf 0) [.int .i64 zo, .int .i64 zk, .int .i64 zi, .int .i64 zt] (zk, zi) := by rw [hZ0, ← hnm]; exact hx5
            have b5 := bx.trans bb5
            have HZ0 := Lib.hid hZ0
            have HZM := Lib.hid hZm
            have HZS := Lib.hid hZs
            have HSUB := Lib.hid (fun z t p (hp : p ≤ m) (e : Zf p z = some t) => HAK.out z t (by rw [← hZ0]; exact Tk.subs (fun i hi => (hZs i hi).2) p hp e))
            have HL := Lib.hid hl
            have HNM := Lib.hid hnm
            have hm100 : m ≤ 100 := by omega
            clear hx hx5 bx bb5 y3 k0 k1 hZ0 hZm hZs hl hnm ht5 fr5 hG
            go_wp2_with fail
            go_loopg [116] m (fun gk vi wr => ∃ p : Nat, vi = .int .i64 (p : Int) ∧ p + gk = m ∧ Sx w.heap.size (fun j => G = some j) wr c mb qb zb n' (n' + gk) B (Zf p) [.int .i64 zo, .int .i64 zk, .int .i64 zi, .int .i64 zt] (zk, zi) ∧ Its kc 2 30 wr (.slice sA m scap) G m F ∧ Below w.heap.size w wr)
            case atStart => exact ⟨0, rfl, by omega, hx5', its, b5⟩
            case round =>
              clear hx5' its b5
              obtain ⟨p, rfl, hpm, hx6, its6, b6⟩ := hrel
              have HPM := Lib.hid hpm
              by_cases hp : p < m
              · obtain ⟨gx, capx, hGx, hsx, rowx⟩ := its6.some_ (by omega)
                injection hsx with e1 e2 e3
                subst e1 e3
                obtain ⟨⟨t, hF, hle⟩, hstep⟩ := HZS.out p hp
                obtain ⟨kF, hkF⟩ : ∃ x, F p = x := ⟨_, rfl⟩
                rw [hkF] at hF hstep
                have x0 : wr.cell? ⟨gx, p * 2, none⟩ = some (.int .i64 kF.1) := rowx.cell (c := 0) hp (by rw [hkF]; rfl) rfl
                have x1 : wr.cell? ⟨gx, p * 2 + 1, none⟩ = some (.int .i64 kF.2) := rowx.cell (c := 1) hp (by rw [hkF]; rfl) rfl
                have hpi : (p : Int) < (m : Int) := by omega
                have hwF := HSUB.out kF t p (by omega) hF.1
                have hdt : decide (zt < t) = false := by simp; omega
                obtain ⟨g1, hg1⟩ : ∃ g1, gk = g1 + 1 := ⟨gk - 1, by omega⟩
                have HG1 := Lib.hid hg1
                have HF := Lib.hid hF
                have HST := Lib.hid hstep
                have HMT := Lib.hid (MV_at hF.1)
                clear hkF hF hstep hg1 hpm hle
                go_upto_region 34 with (fail)
                have o7 : Only wr (wr.alloc (.cells #[.int .i64 kF.1, .int .i64 kF.2] 30)) (fun _ => False) := (Only.refl wr _).alloc _
                have HG7 := Lib.hid (heap_alloc_new wr (.cells #[.int .i64 kF.1, .int .i64 kF.2] 30))
                obtain ⟨hx7, bb7⟩ := hx6.still o7
                have its7 := its6.kept o7 (fun _ _ e => e)
                clear x0 x1 rowx hx6 its6
                generalize wr.heap.size = H7 at HG7 ⊢
                generalize wr.alloc (.cells #[.int .i64 kF.1, .int .i64 kF.2] 30) = w7 at o7 HG7 hx7 bb7 its7 ⊢
                go_wp2_with fail
                refine (first_any w7 mb (n' + gk) (Zf p) hx7.mp (fun z t' e => HSUB.out z t' p (by omega) e)).mono ?_
                rintro e w8 ⟨kk, bk, rfl, hFi, b8⟩
                have hkk : kk = kF ∧ bk = true := by
                  rcases hFi with ⟨e1, t', e2⟩ | ⟨_, _, e1⟩
                  · exact ⟨(e2.uniq HF.out).1, e1⟩
                  · have := HF.out.1; rw [e1 kF] at this; cases this
                obtain ⟨rfl, rfl⟩ := hkk
                clear hFi
                have o8 : Only w7 w8 (fun _ => False) := Only.of_below b8
                obtain ⟨hx8, bb8⟩ := hx7.still o8
                have its8 := its7.kept o8 (fun _ _ e => e)
                have HG8 := Lib.hid (o8.blk (fun e => e) HG7.out)
                clear hx7 its7 HG7
                go_upto_region 35 with (fail)
                have o9 : Only w8 (w8.alloc (.cells #[.int .i64 kk.1, .int .i64 kk.2] 30)) (fun _ => False) := (Only.refl w8 _).alloc _
                have HW9 := Lib.hid (heap_alloc_new w8 (.cells #[.int .i64 kk.1, .int .i64 kk.2] 30))
                have HG9 := Lib.hid (o9.blk (fun e => e) HG8.out)
                obtain ⟨hx9, bb9⟩ := hx8.still o9
                have its9 := its8.kept o9 (fun _ _ e => e)
                clear hx8 its8 HG8
                generalize w8.heap.size = H9 at HW9 ⊢
                generalize w8.alloc (.cells #[.int .i64 kk.1, .int .i64 kk.2] 30) = w9 at o9 HW9 HG9 hx9 bb9 its9 ⊢
                have y3 := cell_of_row _ _ 3 _ _ _ hx9.bq
                have v0 := cell_of_row _ _ 0 _ _ _ HW9.out
                have v1 := cell_of_row _ _ 1 _ _ _ HW9.out
                have g0 := cell_of_row _ _ 0 _ _ _ HG9.out
                have g1' := cell_of_row _ _ 1 _ _ _ HG9.out
                have hrun : ∀ y, (Instr.lookup 26 (.map (some mb)) (.agg #[.int .i64 kk.1, .int .i64 kk.2]) false).run Try.prog (w9.drewN y) = .ok (.int .i64 t) (w9.drewN y) := fun y => by rw [(hx9.mp.kept ((Only.refl w9 (fun _ => False)).drewN y) (fun q => q)).run_at kd Try.underlying26 (zeroL _) hwF]; simp [HMT.out]
                have hrun1 : (Instr.lookup 26 (.map (some mb)) (.agg #[.int .i64 kk.1, .int .i64 kk.2]) false).run Try.prog w9.drew = .ok (.int .i64 t) w9.drew := hrun 1
                have hrun0 : (Instr.lookup 26 (.map (some mb)) (.agg #[.int .i64 kk.1, .int .i64 kk.2]) false).run Try.prog w9 = .ok (.int .i64 t) w9 := hrun 0
                go_quiet (fail)
                have oq : Only w9 (w9.drewN nq) (fun _ => False) := (Only.refl w9 _).drewN nq
                obtain ⟨hx10, bbw10⟩ := hx9.still oq
                have HW10 := Lib.hid (oq.blk (fun q => q) HW9.out)
                generalize w9.drewN nq = w10 at hx10 bbw10 HW10 oq ⊢
                have its10 := its9.kept oq (fun _ _ e => e)
                clear hrun hrun1 hrun0 y3 v0 v1 g0 g1'
                have v0 := cell_of_row _ _ 0 _ _ _ HW10.out
                have v1 := cell_of_row _ _ 1 _ _ _ HW10.out
                go_wp2_with (at_delete; refine wpList_mp_del rfl (.tmp 140) (.tmp 141) 26 30 rfl 2 kd Try.underlying26 mb _ (n' + gk) rfl hx10.mp kk rfl hwF (n' + g1) (by rw [HMT.out, HG1.out]; rfl) ?_; intro w11 hm11 hg11)
                rw [← MV_del, ← HST.out] at hm11
                obtain ⟨hx11, bb11⟩ := hx10.mapped hg11 hm11
                have o11 : Only w10 w11 (fun j => j = mb) := Only.grown hg11 (Or.inl rfl)
                go_roundg g1
                case measure => have := HG1.out; omega
                case rel => exact ⟨p + 1, by go_num, by have := HG1.out; have := HPM.out; omega, hx11, its10.kept o11 (fun g e e' => hx10.ne.2.2.1 (by rw [← e']; exact e)), b6.trans (bb7.trans (bb8.trans (bb9.trans (bbw10.trans bb11))))⟩
              · obtain rfl : p = m := by omega
                obtain rfl : gk = 0 := by omega
                have hx7 : Sx w.heap.size (fun j => G = some j) wr c mb qb zb n' n' B B [.int .i64 zo, .int .i64 zk, .int .i64 zi, .int .i64 zt] (zk, zi) := by have := hx6; rw [HZM.out] at this; exact this
                clear hx6 hpm HPM hp
                go_wp2_with fail
                refine (first_any wr mb n' B hx7.mp (fun z t' e => HSUB.out z t' p (Nat.le_refl _) (by rw [HZM.out]; exact e))).mono ?_
                rintro e w8 ⟨kk, bk, rfl, hFi, b8⟩
                obtain ⟨hx8, bb8⟩ := hx7.below b8
                go_upto_region 40 with (fail)
                have o9 : Only w8 (w8.alloc (.cells #[.int .i64 kk.1, .int .i64 kk.2] 30)) (fun _ => False) := (Only.refl w8 _).alloc _
                have HW9 := Lib.hid (heap_alloc_new w8 (.cells #[.int .i64 kk.1, .int .i64 kk.2] 30))
                obtain ⟨hx9, bb9⟩ := hx8.still o9
                clear hx8 hx7
                generalize w8.heap.size = H9 at HW9 ⊢
                generalize w8.alloc (.cells #[.int .i64 kk.1, .int .i64 kk.2] 30) = w9 at o9 HW9 hx9 bb9 ⊢
                have y3 := cell_of_row _ _ 3 _ _ _ hx9.bq
                have v0 := cell_of_row _ _ 0 _ _ _ HW9.out
                have v1 := cell_of_row _ _ 1 _ _ _ HW9.out
                rcases hFi with ⟨rfl, t, hF⟩ | ⟨rfl, rfl, hE⟩
                · have hwF := (hx9.t.ok hF.1).1
                  have hlt := HL.out kk t hF.1
                  have hdt : decide (t ≤ zt) = false := by simp; omega
                  have HMT := Lib.hid (MV_at hF.1)
                  clear hF hlt
                  have hrun : ∀ y, (Instr.lookup 26 (.map (some mb)) (.agg #[.int .i64 kk.1, .int .i64 kk.2]) false).run Try.prog (w9.drewN y) = .ok (.int .i64 t) (w9.drewN y) := fun y => by rw [(hx9.mp.kept ((Only.refl w9 (fun _ => False)).drewN y) (fun q => q)).run_at kd Try.underlying26 (zeroL _) hwF]; simp [HMT.out]
                  have hrun1 : (Instr.lookup 26 (.map (some mb)) (.agg #[.int .i64 kk.1, .int .i64 kk.2]) false).run Try.prog w9.drew = .ok (.int .i64 t) w9.drew := hrun 1
                  have hrun0 : (Instr.lookup 26 (.map (some mb)) (.agg #[.int .i64 kk.1, .int .i64 kk.2]) false).run Try.prog w9 = .ok (.int .i64 t) w9 := hrun 0
                  go_quiet (fail)
                  have oq : Only w9 (w9.drewN nq) (fun _ => False) := (Only.refl w9 _).drewN nq
                  obtain ⟨hx10, bbw10⟩ := hx9.still oq
                  have HW10 := Lib.hid (oq.blk (fun q => q) HW9.out)
                  generalize w9.drewN nq = w10 at hx10 bbw10 HW10 oq ⊢
                  clear hrun hrun1 hrun0 y3 v0 v1
                  go_wp2_with fail
                  go_meet
                  exact ⟨n', B, hx10.unbox, by have := HNM.out; omega, b6.trans (bb8.trans (bb9.trans bbw10))⟩
                · clear hE
                  go_quiet (fail)
                  have oq : Only w9 (w9.drewN nq) (fun _ => False) := (Only.refl w9 _).drewN nq
                  obtain ⟨hx10, bbw10⟩ := hx9.still oq
                  have HW10 := Lib.hid (oq.blk (fun q => q) HW9.out)
                  generalize w9.drewN nq = w10 at hx10 bbw10 HW10 oq ⊢
                  clear y3 v0 v1
                  go_wp2_with fail
                  go_meet
                  exact ⟨n', B, hx10.unbox, by have := HNM.out; omega, b6.trans (bb8.trans (bb9.trans bbw10))⟩
          · -- set
            have hk2 : ((od : Int) == 2) = false := by simp; omega
            have hk3 : ((od : Int) == 3) = false := by simp; omega
            have hk4 : ((od : Int) == 4) = false := by simp; omega
            obtain ⟨n', hn'⟩ : ∃ n', n' = if (A (zk, zi)).isSome then n else n + 1 := ⟨_, rfl⟩
            have hn'' : n' ≤ n + 1 := by rw [hn']; split <;> omega
            have HN := Lib.hid hn'
            have HCN := Lib.hid (show n' = if (MV A (zk, zi)).isSome then n else n + 1 by rw [MV_is]; exact hn')
            clear hn'
            go_wp2_with fail
            refine (o_set w4 c n A (zk, zi) zt hx.t hkw wt (by omega) n' HN.out).mono ?_
            rintro e w5 ⟨rfl, ht5, fr5⟩
            obtain ⟨hx5, b5⟩ := hx.called ht5 fr5
            clear y3 k0 k1
            have y3 := cell_of_row _ _ 3 _ _ _ hx5.bq
            have k0 := cell_of_row _ _ 0 _ _ _ hx5.bk
            have k1 := cell_of_row _ _ 1 _ _ _ hx5.bk
            have hml : n < maxLen := by have : (1073741824 : Nat) < maxLen := by decide
                                        omega
            go_wp2_with (at_mapUpdate; refine wpList_mp_set rfl (.tmp 54) (.tmp 55) (.tmp 57) 26 rfl 30 2 kd Try.underlying26 mb _ n rfl hx5.mp hml (zk, zi) rfl hkw (.int .i64 zt) rfl n' HCN.out ?_; intro w6 hm6 hg6)
            rw [← MV_set] at hm6
            obtain ⟨hx6, b6⟩ := hx5.mapped hg6 hm6
            go_meet
            exact ⟨n', _, hx6.unbox, by omega, bx.trans (b5.trans b6)⟩
        case rest =>
          obtain ⟨n1, A1, h1, hn1, b1⟩ := hcut
          clear hx bx hod8 hni hq0 hkw wk wi wt
          have hn9 : n1 < 1073741824 := by omega
          go_wp2_with fail
          refine (o_len _ c n1 A1 h1.t).mono ?_
          rintro e w5 ⟨rfl, ht5, fr5⟩
          have b5 := b1.trans (Fr.below fr5 b1.size)
          have h5 : Ms w.heap.size w5 c mb n1 A1 := ⟨ht5, h1.mp.kept fr5 (fun e => e.2 rfl), h1.lo⟩
          clear h1 b1 ht5 fr5
          go_wp2_with (at_len; refine wpList_mp_len rfl (.tmp 159) 26 rfl 30 2 Try.underlying26 mb _ n1 rfl h5.mp ?_)
          go_loopg [164] k (fun gk vi wr => ∃ j : Nat, vi = .int .i64 (j : Int) ∧ j + gk = k ∧ Ms w.heap.size wr c mb n1 A1 ∧ Below w.heap.size w wr)
          case atStart => exact ⟨0, rfl, by omega, h5, b5⟩
          case round =>
            clear h5 b5
            obtain ⟨j, rfl, hjk, h6, b6⟩ := hrel
            have HJK := Lib.hid hjk
            by_cases hj : j < k
            · obtain ⟨ad', ha', hab', hcell⟩ := (L.below b6 (Nat.le_refl _)).num (j := j * 4) (by omega)
              injection ha' with ha'
              subst ha'
              have hji : (j : Int) < (k : Int) := by omega
              have x0 := hcell (j * 4) (by omega)
              have x1 := cell_in (c := 0) (hcell (j * 4 + 1) (by omega))
              have x2 := cell_in (c := 1) (hcell (j * 4 + 2) (by omega))
              have x3 := cell_in (c := 2) (hcell (j * 4 + 3) (by omega))
              rw [Nat.zero_add] at x1
              rw [show (1 : Nat) + 1 = 2 from rfl] at x2
              rw [show (2 : Nat) + 1 = 3 from rfl] at x3
              have wk := wf (j * 4 + 1) (by omega)
              have wi := wf (j * 4 + 2) (by omega)
              obtain ⟨yo, hyo⟩ : ∃ z, Z (j * 4) = z := ⟨_, rfl⟩
              obtain ⟨yk, hyk⟩ : ∃ z, Z (j * 4 + 1) = z := ⟨_, rfl⟩
              obtain ⟨yi, hyi⟩ : ∃ z, Z (j * 4 + 2) = z := ⟨_, rfl⟩
              obtain ⟨yt, hyt⟩ : ∃ z, Z (j * 4 + 3) = z := ⟨_, rfl⟩
              rw [hyo] at x0
              rw [hyk] at x1 wk
              rw [hyi] at x2 wi
              rw [hyt] at x3
              have hkw : kw (yk, yi) := ⟨wk, wi⟩
              clear hcell hjk hyo hyk hyi hyt wk wi
              obtain ⟨hx7, b7⟩ := h6.box [.int .i64 yo, .int .i64 yk, .int .i64 yi, .int .i64 yt] (yk, yi)
              go_upto_region 48 with (fail)
              clear x0 x1 x2 x3 h6
              obtain ⟨q7, hq7⟩ : ∃ q, wr.heap.size = q := ⟨_, rfl⟩
              obtain ⟨z7, hz7⟩ : ∃ q, wr.heap.size + 1 = q := ⟨_, rfl⟩
              rw [hz7, hq7] at hx7
              dsimp only at hx7 b7
              rw [hz7, hq7]
              clear hq7 hz7
              generalize (wr.alloc (.cells #[.int .i64 yo, .int .i64 yk, .int .i64 yi, .int .i64 yt] 28)).alloc (.cells #[.int .i64 yk, .int .i64 yi] 30) = w7 at hx7 b7 ⊢
              have k0 := cell_of_row _ _ 0 _ _ _ hx7.bk
              have k1 := cell_of_row _ _ 1 _ _ _ hx7.bk
              go_wp2_with fail
              refine (o_at w7 c n1 A1 (yk, yi) hkw hn9 hx7.t).mono ?_
              rintro e w8 ⟨rfl, ht8, fr8⟩
              obtain ⟨hx8, b8⟩ := hx7.called ht8 fr8
              clear k0 k1 hx7 ht8 fr8
              have k0 := cell_of_row _ _ 0 _ _ _ hx8.bk
              have k1 := cell_of_row _ _ 1 _ _ _ hx8.bk
              cases hA : A1 (yk, yi) with
              | none =>
                have HA := Lib.hid hA
                clear hA
                go_wp2_with (at_lookup; refine wpList_mp_none rfl (.tmp 180) (.tmp 181) 26 rfl 30 2 kd Try.underlying26 (zeroL _) mb _ n1 rfl hx8.mp (yk, yi) rfl hkw (MV_no HA.out) ?_)
                go_roundg (k - (j + 1))
                case measure => have := HJK.out; omega
                case rel => exact ⟨j + 1, by go_num, by omega, hx8.unbox, b6.trans (b7.trans b8)⟩
              | some u =>
                have HA := Lib.hid hA
                clear hA
                go_wp2_with (at_lookup; refine wpList_mp_some rfl (.tmp 180) (.tmp 181) 26 rfl 30 2 kd Try.underlying26 (zeroL _) mb _ n1 rfl hx8.mp (yk, yi) rfl hkw (.int .i64 u) (MV_at HA.out) ?_)
                go_roundg (k - (j + 1))
                case measure => have := HJK.out; omega
                case rel => exact ⟨j + 1, by go_num, by omega, hx8.unbox, b6.trans (b7.trans b8)⟩
            · obtain rfl : j = k := by omega
              clear hjk HJK hj
              go_wp2_with fail
              go_roundg (j - (i + 1))
              case measure => have := HIK.out; omega
              case rel => exact ⟨i + 1, n1, A1, by go_num, by omega, h6, hn1, b6⟩
      · obtain rfl : i = k := by omega
        go_wp2_with fail
        go_ret
        exact ⟨rfl, bz⟩
end Go.Proofs.Ytkldoeillkfpbaa.W.HT
