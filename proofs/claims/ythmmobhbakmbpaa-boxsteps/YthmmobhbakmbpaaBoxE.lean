/- The law BoxSteps. -/
import Derived.Test.YthmmobhbakmbpaaBoxB
import Derived.Deep.LoopGhost
import Derived.Deep.DeepCutAuto
import Derived.Deep.CutBlock
namespace Go.Proofs.Ythmmobhbakmbpaa.W
open Go.RowKit

/-- Whether a sandbox is not dead. -/
def Ph.nd : Ph → Bool
  | .dead => false
  | _ => true
theorem Bx.c0 {w : World} {b : Nat} {c : Bo} (h : Bx w b c) : w.cell? ⟨b, 0, none⟩ = some (.int .i64 c.id) := cellL h 0 _ rfl
theorem Bx.c1 {w : World} {b : Nat} {c : Bo} (h : Bx w b c) : w.cell? ⟨b, 1, none⟩ = some (.int .i64 c.fn) := cellL h 1 _ rfl
theorem Bx.c2 {w : World} {b : Nat} {c : Bo} (h : Bx w b c) : w.cell? ⟨b, 2, none⟩ = some (.int .i64 c.ho) := cellL h 2 _ rfl
theorem Bx.c3 {w : World} {b : Nat} {c : Bo} (h : Bx w b c) : w.cell? ⟨b, 3, none⟩ = some (.int .i64 c.me) := cellL h 3 _ rfl
theorem Bx.c4 {w : World} {b : Nat} {c : Bo} (h : Bx w b c) : w.cell? ⟨b, 4, none⟩ = some (.int .i64 c.q.st) := cellL h 4 _ rfl
theorem Bx.c5 {w : World} {b : Nat} {c : Bo} (h : Bx w b c) : w.cell? ⟨b, 5, none⟩ = some (.bool c.q.bd) := cellL h 5 _ rfl
theorem Bx.c6 {w : World} {b : Nat} {c : Bo} (h : Bx w b c) : w.cell? ⟨b, 6, none⟩ = some (.bool c.p) := cellL h 6 _ rfl
theorem Bx.c7 {w : World} {b : Nat} {c : Bo} (h : Bx w b c) : w.cell? ⟨b, 7, none⟩ = some (.int .i64 c.t) := cellL h 7 _ rfl
theorem Bx.pin {w : World} {b : Nat} {c : Bo} {x : Bool} (h : w.heap[b]? = some (.cells ((bcs c.id c.fn c.ho c.me c.q.st c.q.bd c.p c.t).set 6 (.bool x)).toArray 29 (0, 0))) : Bx w b { c with p := x } := h
theorem wpList_store_box {w : World} {ops : Array Oper} {rest : List Oper} {o : Oper} {a : Act} {Q : Exit → Act → World → Prop} (hgd : o.guard = none) (x y : Operand) (ho : o.op = .store 29 x y)
    (g : Nat) (c c' : Bo) (hx : a.eval x = .pointer (some ⟨g, 0, none⟩)) (hy : a.eval y = .agg (bcs c.id c.fn c.ho c.me c.q.st c.q.bd c.p c.t).toArray) (HG : Bx w g c')
    (hn : ∀ w', Hid (Bx w' g c) → w.grownBy w' (some g) → wpList Try.prog ops Q rest (a.put o.dst undef) w') : wpList Try.prog ops Q (o :: rest) a w := by
  refine wpList_store_row hgd _ x y ho g _ hx hy _ _ HG sizeBox rfl (by simp [Value.oneCell']) ?_
  exact hn _ (Lib.hid (show _ = _ from setRow_heap w g _ _ _ _ HG)) ⟨rfl, rfl, rfl, by simp [World.setRow], fun k _ hk => setRow_other w g k _ (by intro e; exact hk (by rw [e]))⟩

set_option maxRecDepth 100000 in
set_option maxHeartbeats 6400000 in
theorem steps_walk (i0 f0 h0 m0 : Int) (a0 a1 : Option Addr) (k k' cap cap' : Nat) (xs : List Int) (ps : List Bool) (hl : xs.length = k) (_hc : k ≤ cap) (hl' : ps.length = k') (_hc' : k' ≤ cap') (w : World) (L : Lies w w.heap.size a0 (ints xs)) (L' : Lies w w.heap.size a1 (ps.map Value.bool)) :
    Calls Try.prog 3 #[.int .i64 i0, .int .i64 f0, .int .i64 h0, .int .i64 m0, .slice a0 k cap, .slice a1 k' cap'] w fun e w' => e = .returned (.bool true) ∧ Below w.heap.size w w' := by
  have HL := Lib.hid hl
  have HL' := Lib.hid hl'
  clear hl hl'
  by_cases hk : 100 < k
  · have hki : decide ((100 : Int) < (k : Int)) = true := by simp; omega
    go_enter Try.func3, Try.ntmps3
    go_wp2_with fail
    refine (head12 _).mono ?_
    rintro e w1 ⟨rfl, b1⟩
    go_wp2_with fail
    go_ret
    exact ⟨rfl, b1⟩
  have hki : decide ((100 : Int) < (k : Int)) = false := by simp; omega
  by_cases hk' : 100 < k'
  · have hki' : decide ((100 : Int) < (k' : Int)) = true := by simp; omega
    go_enter Try.func3, Try.ntmps3
    go_wp2_with fail
    refine (head12 _).mono ?_
    rintro e w1 ⟨rfl, b1⟩
    go_wp2_with fail
    go_ret
    exact ⟨rfl, b1⟩
  have hki' : decide ((100 : Int) < (k' : Int)) = false := by simp; omega
  have hkk := Lib.hid (show k ≤ 100 by omega)
  clear hk hk'
  go_enter Try.func3, Try.ntmps3
  go_wp2_with fail
  refine (head12 _).mono ?_
  rintro e w1 ⟨rfl, b1⟩
  go_wp2_with fail
  refine (bx_new i0 f0 h0 m0 (-3) w1).mono ?_
  rintro e w2 ⟨rfl, h2, b2⟩
  obtain ⟨b, hb⟩ : ∃ b, w1.heap.size = b := ⟨_, rfl⟩
  have bb2 := b1.trans (b2.mono b1.size)
  have hlb : w.heap.size ≤ b := by rw [← hb]; exact b1.size
  rw [hb] at h2
  rw [hb]
  clear hb b1 b2
  have bn : Below w2.heap.size w2 (w2.alloc (.cells #[Value.int .i64 i0, .int .i64 f0, .int .i64 h0, .int .i64 m0, .int .i64 0, .bool false, .bool false, .int .i64 (-3)] 29)) := (Below.refl _ _).alloc (Nat.le_refl _) _
  have hx3 := h2.keep bn h2.lt
  have hu3 : Bx (w2.alloc (.cells #[Value.int .i64 i0, .int .i64 f0, .int .i64 h0, .int .i64 m0, .int .i64 0, .bool false, .bool false, .int .i64 (-3)] 29)) w2.heap.size ⟨i0, f0, h0, m0, .boot, false, -3⟩ := heap_alloc_new _ _
  have bb3 := bb2.alloc bb2.size (.cells #[Value.int .i64 i0, .int .i64 f0, .int .i64 h0, .int .i64 m0, .int .i64 0, .bool false, .bool false, .int .i64 (-3)] 29)
  have hub : w2.heap.size ≠ b := by have := h2.lt; omega
  have hlu : w.heap.size ≤ w2.heap.size := bb2.size
  go_upto_region 7 with (fail)
  generalize w2.alloc _ = w3 at hx3 hu3 bb3 ⊢
  generalize w2.heap.size = u at *
  clear h2 bb2 bn
  have d0 : w3.cell? ⟨b, 0, none⟩ = some (.int .i64 i0) := cellL hx3 0 _ rfl
  have d1 : w3.cell? ⟨b, 1, none⟩ = some (.int .i64 f0) := cellL hx3 1 _ rfl
  have d2 : w3.cell? ⟨b, 2, none⟩ = some (.int .i64 h0) := cellL hx3 2 _ rfl
  have d3 : w3.cell? ⟨b, 3, none⟩ = some (.int .i64 m0) := cellL hx3 3 _ rfl
  have d4 : w3.cell? ⟨b, 4, none⟩ = some (.int .i64 0) := cellL hx3 4 _ rfl
  have d5 : w3.cell? ⟨b, 5, none⟩ = some (.bool false) := cellL hx3 5 _ rfl
  have d6 : w3.cell? ⟨b, 6, none⟩ = some (.bool false) := cellL hx3 6 _ rfl
  have d7 : w3.cell? ⟨b, 7, none⟩ = some (.int .i64 (-3)) := cellL hx3 7 _ rfl
  have e0 : w3.cell? ⟨u, 0, none⟩ = some (.int .i64 i0) := cellL hu3 0 _ rfl
  have e1 : w3.cell? ⟨u, 1, none⟩ = some (.int .i64 f0) := cellL hu3 1 _ rfl
  have e2 : w3.cell? ⟨u, 2, none⟩ = some (.int .i64 h0) := cellL hu3 2 _ rfl
  have e3 : w3.cell? ⟨u, 3, none⟩ = some (.int .i64 m0) := cellL hu3 3 _ rfl
  have e4 : w3.cell? ⟨u, 4, none⟩ = some (.int .i64 0) := cellL hu3 4 _ rfl
  have e5 : w3.cell? ⟨u, 5, none⟩ = some (.bool false) := cellL hu3 5 _ rfl
  have e6 : w3.cell? ⟨u, 6, none⟩ = some (.bool false) := cellL hu3 6 _ rfl
  have e7 : w3.cell? ⟨u, 7, none⟩ = some (.int .i64 (-3)) := cellL hu3 7 _ rfl
  go_quiet (fail)
  clear d0 d1 d2 d3 d4 d5 d6 d7 e0 e1 e2 e3 e4 e5 e6 e7
  go_wp2_with fail
  clear hki hki'
  go_loopg [52] k (fun gk vi wr => ∃ (i : Nat) (c : Bo), vi = .int .i64 (i : Int) ∧ i + gk = k ∧ Bx wr b c ∧ Bx wr u c ∧ Below w.heap.size w wr)
  case atStart => exact ⟨0, _, rfl, by omega, hx3, hu3, below_drewN bb3 _⟩
  case round =>
    clear hx3 hu3 bb3
    obtain ⟨i, c, rfl, hik, hz, hu, bz⟩ := hrel
    have HIK := Lib.hid hik
    by_cases hi : i < k
    · obtain ⟨ad, x, hA, hadb, hx, hcell⟩ := (L.below bz (Nat.le_refl _)).int (i := i) (by rw [HL.out]; exact hi)
      subst hA
      have hi2 : (i : Int) < 100 := by have := hkk.out; omega
      obtain ⟨s, y, hy, hs⟩ := stp_of x
      have HX := Lib.hid hx
      clear hx hik
      obtain ⟨g, hg⟩ : ∃ g, g = (decide (i < k') && c.q.nd) := ⟨_, rfl⟩
      have HG := Lib.hid hg
      go_upto_region 13 with (fail)
      go_cut [66] (fun v wc => v = .bool g ∧ wr = wc)
      case first =>
        have c4 := hu.c4
        obtain ⟨i1, f1, h1, m1, q, p, t⟩ := c
        clear HG
        by_cases hp : i < k'
        · rw [decide_eq_true hp] at hg
          cases q <;>
          · simp only [Ph.st, Ph.nd] at c4 hg
            subst hg
            go_wp2_with fail
            go_meet
            exact ⟨rfl, rfl⟩
        · rw [decide_eq_false hp] at hg
          simp only [Bool.false_and] at hg
          subst hg
          go_wp2_with fail
          go_meet
          exact ⟨rfl, rfl⟩
      case rest =>
        obtain ⟨rfl, rfl⟩ := hcut
        clear hg
        go_upto_if 66 with (fail)
        go_cut [] (fun wc => ∃ p', Bx wc b { c with p := p' } ∧ Bx wc u { c with p := p' } ∧ Below w.heap.size w wc)
        case first =>
          cases g with
          | false =>
            go_wp2_with fail
            go_meet
            exact ⟨c.p, hz, hu, bz⟩
          | true =>
            have hp : i < k' := by have := HG.out; simp at this; exact this.1
            obtain ⟨ad', hA', hadb', hcell'⟩ := (L'.below bz (Nat.le_refl _)).at_ (k := i) (by rw [List.length_map, HL'.out]; exact hp)
            rw [List.getElem_map] at hcell'
            obtain ⟨pb, hpb⟩ : ∃ pb, ps[i]'(by rw [HL'.out]; exact hp) = pb := ⟨_, rfl⟩
            rw [hpb] at hcell'
            subst hA'
            have HZ : Hid (wr.heap[b]? = some (.cells (bcs c.id c.fn c.ho c.me c.q.st c.q.bd c.p c.t).toArray 29 (0, 0))) := Lib.hid hz
            have HU : Hid (wr.heap[u]? = some (.cells (bcs c.id c.fn c.ho c.me c.q.st c.q.bd c.p c.t).toArray 29 (0, 0))) := Lib.hid hu
            clear hpb HG
            go_wp2_with (first
              | (with_reducible refine wpList_store_boolin rfl 4 (.tmp 73) (.tmp 71) rfl (by kernel_rfl) b 6 rfl pb rfl _ _ HZ.out (by simp) ?_; intro w4 HG4 hg4
                 have hcell2 := hcell'
                 rw [← World.cell?_of_block (w := wr) (w' := w4) (hg4.block _ (by rw [blk_add]; have := bz.size; omega) (by rw [blk_add]; simp; omega))] at hcell2
                 have hu4 := row_kept HU.out hg4 hub)
              | (with_reducible refine wpList_store_boolin rfl 4 (.tmp 78) (.tmp 77) rfl (by kernel_rfl) u 6 rfl pb rfl _ _ hu4 (by simp) ?_; intro w5 HG5 hg5))
            go_meet
            exact ⟨pb, row_kept (Bx.pin HG4.out) hg5 hub.symm, Bx.pin HG5.out, below_row (below_row bz hlb hg4 bz.size) hlu hg5 (below_row bz hlb hg4 bz.size).size⟩
        case rest =>
          clear hz hu bz hcell
          obtain ⟨p', hz, hu, bz⟩ := hcut
          generalize { c with p := p' } = c1 at hz hu
          clear HG
          obtain ⟨c2, r, hn⟩ : ∃ c2 r, nx s c1 (i : Int) = (c2, r) := ⟨_, _, rfl⟩
          have hn1 := Lib.hid (show (nx s c1 (i : Int)).1 = c2 by rw [hn])
          have hn2 := Lib.hid (show (nx s c1 (i : Int)).2 = r by rw [hn])
          clear hn
          have d0 := hu.c0
          have d1 := hu.c1
          have d2 := hu.c2
          have d3 := hu.c3
          have d4 := hu.c4
          have d5 := hu.c5
          have d6 := hu.c6
          have d7 := hu.c7
          go_wp2_with fail
          clear d0 d1 d2 d3 d4 d5 d6 d7
          refine (next_any s y hs c1 (i : Int) _).mono ?_
          rintro e w4 ⟨rfl, b4⟩
          rw [hn1.out, hn2.out]
          simp only [brow]
          have hz4 := hz.keep b4 hz.lt
          have hu4 := hu.keep b4 hu.lt
          have bz4 := bz.trans (b4.mono bz.size)
          have bn : Below w4.heap.size w4 (w4.alloc (.cells (bcs c2.id c2.fn c2.ho c2.me c2.q.st c2.q.bd c2.p c2.t).toArray 29)) := (Below.refl _ _).alloc (Nat.le_refl _) _
          have hz5 := hz4.keep bn hz4.lt
          have hu5 := hu4.keep bn hu4.lt
          have hq5 : Bx (w4.alloc (.cells (bcs c2.id c2.fn c2.ho c2.me c2.q.st c2.q.bd c2.p c2.t).toArray 29)) w4.heap.size c2 := heap_alloc_new _ _
          have bz5 := bz4.trans (bn.mono bz4.size)
          have hqb : w4.heap.size ≠ b := by have := hz4.lt; omega
          have hqu : w4.heap.size ≠ u := by have := hu4.lt; omega
          clear hz hu bz b4 hz4 hu4 bz4 bn
          go_upto_region 17 with (fail)
          generalize w4.alloc _ = w5 at hz5 hu5 hq5 bz5 ⊢
          generalize w4.heap.size = z at *
          go_upto_block 2 with (fail)
          go_cut [20] (fun v wc => v = .bool r ∧ Bx wc b c2 ∧ Bx wc u c1 ∧ Bx wc z c2 ∧ Below w.heap.size w wc)
          case first =>
            rcases hs with ⟨rfl, rfl⟩ | ⟨rfl, rfl⟩ | ⟨rfl, rfl⟩ | ⟨rfl, rfl⟩
            · go_wp2_with fail
              refine (bx_call b c1 (i : Int) _ hz5).mono ?_
              rintro e w6 ⟨rfl, h6, g6⟩
              rw [hn1.out] at h6
              rw [hn2.out]
              go_wp2_with fail
              go_meet
              exact ⟨rfl, h6, hu5.off g6 hub, hq5.off g6 hqb, below_row bz5 hlb g6 bz5.size⟩
            · go_wp2_with fail
              refine (bx_booted b c1 (i : Int) _ hz5).mono ?_
              rintro e w6 ⟨rfl, h6, g6⟩
              rw [hn1.out] at h6
              rw [hn2.out]
              go_wp2_with fail
              go_meet
              exact ⟨rfl, h6, hu5.off g6 hub, hq5.off g6 hqb, below_row bz5 hlb g6 bz5.size⟩
            · go_wp2_with fail
              refine (bx_done b c1 (i : Int) _ hz5).mono ?_
              rintro e w6 ⟨rfl, h6, g6⟩
              rw [hn1.out] at h6
              rw [hn2.out]
              go_wp2_with fail
              go_meet
              exact ⟨rfl, h6, hu5.off g6 hub, hq5.off g6 hqb, below_row bz5 hlb g6 bz5.size⟩
            · go_wp2_with fail
              refine (bx_kill b c1 (i : Int) _ hz5).mono ?_
              rintro e w6 ⟨rfl, h6, g6⟩
              rw [hn1.out] at h6
              rw [hn2.out]
              go_wp2_with fail
              go_meet
              exact ⟨rfl, h6, hu5.off g6 hub, hq5.off g6 hqb, below_row bz5 hlb g6 bz5.size⟩
          case rest =>
            clear hz5 hu5 hq5 bz5 hs hy hn1 hn2
            obtain ⟨rfl, hz, hu, hq, bz⟩ := hcut
            have d0 := hq.c0
            have d1 := hq.c1
            have d2 := hq.c2
            have d3 := hq.c3
            have d4 := hq.c4
            have d5 := hq.c5
            have d6 := hq.c6
            have d7 := hq.c7
            go_wp2_with (with_reducible refine wpList_store_box rfl (.tmp 14) (.tmp 107) rfl u c2 c1 rfl rfl hu ?_; intro w6 HG6 hg6)
            clear d0 d1 d2 d3 d4 d5 d6 d7
            have hz6 := hz.off hg6 hub.symm
            have hu6 := HG6.out
            have bz6 := below_row bz hlu hg6 bz.size
            clear hz hu hq bz HG6 hg6
            have d0 := hz6.c0
            have d1 := hz6.c1
            have d2 := hz6.c2
            have d3 := hz6.c3
            have d4 := hz6.c4
            have d5 := hz6.c5
            have d6 := hz6.c6
            have d7 := hz6.c7
            have e0 := hu6.c0
            have e1 := hu6.c1
            have e2 := hu6.c2
            have e3 := hu6.c3
            have e4 := hu6.c4
            have e5 := hu6.c5
            have e6 := hu6.c6
            have e7 := hu6.c7
            go_quiet (fail)
            have bz7 := below_drewN bz6 nq
            have hz7 := hz6.drewN nq
            have hu7 := hu6.drewN nq
            clear d0 d1 d2 d3 d4 d5 d6 d7 e0 e1 e2 e3 e4 e5 e6 e7 hz6 hu6 bz6
            generalize w6.drewN nq = w7 at hz7 hu7 bz7 ⊢
            go_upto_region 29 with (fail)
            obtain ⟨i2, f2, h2, m2, q2, p2, t2⟩ := c2
            have e4 := hu7.c4
            have e5 := hu7.c5
            have HR := Lib.hid (fun n => bx_runs b _ _ (hz7.drewN n))
            have HI := Lib.hid (fun n => bx_idle b _ _ (hz7.drewN n))
            cases q2 <;>
            · simp only [Ph.st, Ph.bd] at e4 e5
              simp only [Ph.runs] at HR
              simp only [Ph.idle] at HI
              go_quiet ((first
                | (go_at_call 16; exact Calls.quiet_of_same (quiet_eq (HR.out _)))
                | (go_at_call 17; exact Calls.quiet_of_same (quiet_eq (HI.out _)))))
              go_wp2_with fail
              go_roundg (gk - 1)
              case measure => have := HIK.out; omega
              case rel => exact ⟨i + 1, _, by go_num, by have := HIK.out; omega, hz7.drewN _, hu7.drewN _, below_drewN bz7 _⟩
    · obtain rfl : i = k := by omega
      clear hik hi
      go_wp2_with fail
      go_ret
      exact ⟨rfl, bz⟩

end Go.Proofs.Ythmmobhbakmbpaa.W
