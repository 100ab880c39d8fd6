/- The law AuditMemory: its walk. Made by mk_auo.py. -/
import Derived.Test.YtgpookphacdgoaaAuN
import Derived.Deep.LoopGhost
namespace Go.Proofs.Ytgpookphacdgoaa.W.U
open Go.RowKit Go.Maps Go.ChangeMaps Go.MapKept Go.Proofs.Ytgpookphacdgoaa.W

theorem infoS : (Try.prog.info? 34).map (fun i => (i.zero, i.size, i.bytes)) = some (some (.agg #[.int .i64 0, .int .i64 0, .int .i64 0, .int .i64 0, .int .i64 0, .int .i64 0, .int .i64 0, .int .i64 0, .int .i64 0, .int .i64 0, .int .i64 0, .int .i64 0, .int .i64 0, .int .i64 0, .slice none 0 0]), 15, 136) := by kernel_rfl
theorem info3' {P : Program} {t : TypeId} {z : Value} {s b : Nat} (h : (P.info? t).map (fun i => (i.zero, i.size, i.bytes)) = some (some z, s, b)) : ∃ i, P.info? t = some i ∧ i.zero = some z ∧ i.size = s ∧ i.bytes = b := by
  cases q : P.info? t with
  | none => rw [q] at h; cases h
  | some i =>
    rw [q] at h
    simp only [Option.map_some, Option.some.injEq, Prod.mk.injEq] at h
    exact ⟨i, rfl, h.1, h.2.1, h.2.2⟩
theorem SL.up {w : World} {B B' : Nat} {A : Option Addr} {ss : List Stp} (h : B ≤ B') (H : SL w B A ss) : SL w B' A ss := fun k s hk => by
  obtain ⟨ad, sA, sl, sc, h1, h2, h3, h4, h5, h6, h7⟩ := H k s hk
  refine ⟨ad, sA, sl, sc, h1, Nat.lt_of_lt_of_le h2 h, h3, h4, h5, fun k c hk => ?_, h7⟩
  obtain ⟨ad2, g1, g2, g3⟩ := h6 k c hk
  exact ⟨ad2, g1, Nat.lt_of_lt_of_le g2 h, g3⟩
theorem tot_le : ∀ {ss : List Stp}, (∀ s ∈ ss, s.2.2.length ≤ 1) → tot ss ≤ 4 * ss.length
  | [], _ => Nat.le_refl _
  | a :: r, h => by
    have := tot_le (fun s hs => h s (List.mem_cons_of_mem _ hs))
    have := h a List.mem_cons_self
    simp only [tot, List.length_cons]; omega
abbrev cmdr (c : Cmd) : Obj := .cells #[.bool c.1, .int .i64 c.2.1, .int .i64 c.2.2.1, .int .i64 c.2.2.2] 38 (0, 0)
/-- The list that the law makes, i boots so far. -/
structure Ml (B : Nat) (m z : Int) (w : World) (g i cap : Nat) (T : Nat → Sx) : Prop where
  row : Row sic 15 34 w g (i + 2) cap T
  low : B ≤ g
  t0 : T 0 = (evF m, an0', none, 0)
  t1 : T 1 = (evH z, an0', none, 0)
  tj : ∀ j, j < i → ∃ q, T (j + 2) = (ev0, an0', some q, 1) ∧ q ≠ g ∧ w.heap[q]? = some (cmdr (bt ((j : Int) + 1)))
theorem Ml.kept {B : Nat} {m z : Int} {w w' : World} {g i cap : Nat} {T : Nat → Sx} {S : Nat → Prop} (h : Ml B m z w g i cap T) (ho : Only w w' S) (hS : ∀ j, j < w.heap.size → ¬ S j) : Ml B m z w' g i cap T :=
  ⟨h.row.kept ho (hS _ h.row.lt), h.low, h.t0, h.t1, fun j hj => by
    obtain ⟨q, h1, h2, h3⟩ := h.tj j hj
    exact ⟨q, h1, h2, ho.blk (hS _ (lt_of_row h3)) h3⟩⟩
def csL (k : Nat) : List Cmd := if k < 2 then [] else [bt (((k - 2 : Nat) : Int) + 1)]
theorem Ml.steps {B : Nat} {m z : Int} {w : World} {g i cap : Nat} {T : Nat → Sx} (h : Ml B m z w g i cap T) : steps T csL (i + 2) = ls m z i := by
  apply List.ext_getElem?
  intro k
  by_cases hk : k < i + 2
  · rw [steps_at T csL hk]
    match k, hk with
    | 0, _ => rw [h.t0]; rfl
    | 1, _ => rw [h.t1]; rfl
    | j + 2, hk =>
      obtain ⟨q, h1, _⟩ := h.tj j (by omega)
      rw [h1]
      simp only [ls, List.getElem?_cons_succ, List.getElem?_map]
      rw [List.getElem?_range (show j < i by omega)]
      rfl
  · rw [List.getElem?_eq_none (by rw [steps_len]; omega), List.getElem?_eq_none (by simp [ls]; omega)]
theorem bt_wf {i : Int} (h0 : 0 ≤ i) (h1 : i ≤ 1000000) : cwf (bt i) := ⟨wfK (by show _ ≤ i; omega) (by show i ≤ _; omega), (by decide : (Lit.int .i64 0).wf = true), (by decide : (Lit.int .i64 0).wf = true)⟩
theorem Ml.sl {B : Nat} {m z : Int} {w : World} {g i cap : Nat} {T : Nat → Sx} (h : Ml B m z w g i cap T) (hi : i ≤ 1000) : SL w w.heap.size (some ⟨g, 0, none⟩) (ls m z i) := by
  rw [← h.steps]
  refine SL_of h.row h.row.lt (fun k hk => ?_)
  match k, hk with
  | 0, _ => rw [h.t0]; exact ⟨rfl, CL.nil _ _ _, fun c hc => (by cases hc)⟩
  | 1, _ => rw [h.t1]; exact ⟨rfl, CL.nil _ _ _, fun c hc => (by cases hc)⟩
  | j + 2, hk =>
    obtain ⟨q, h1, _, h3⟩ := h.tj j (by omega)
    rw [h1]
    have e : csL (j + 2) = [bt ((j : Int) + 1)] := by unfold csL; rw [if_neg (by omega)]; rfl
    rw [e]
    refine ⟨rfl, CL.one h3 (lt_of_row h3), fun c hc => ?_⟩
    obtain rfl := List.mem_singleton.1 hc
    exact bt_wf (by omega) (by omega)
theorem tot_ls (m z : Int) (n : Nat) (hn : n ≤ 1000) : tot (ls m z n) < 1048000 := by
  have : tot (ls m z n) ≤ 4 * (ls m z n).length := tot_le (fun s hs => by
    simp only [ls, List.mem_cons, List.mem_map] at hs
    rcases hs with rfl | rfl | ⟨j, _, rfl⟩ <;> simp)
  have : (ls m z n).length = n + 2 := by simp [ls]
  omega
/-- The list of three: the first two of the law's, and a boot. -/
theorem sl3 {w : World} {g cap q : Nat} {m z : Int} {c : Cmd} {T : Nat → Sx} (h : Row sic 15 34 w g 3 cap T) (h0 : T 0 = (evF m, an0', none, 0)) (h1 : T 1 = (evH z, an0', none, 0)) (h2 : T 2 = (ev0, an0', some q, 1)) (hq : w.heap[q]? = some (cmdr c)) (hc : cwf c) : SL w w.heap.size (some ⟨g, 0, none⟩) [(evF m, an0', []), (evH z, an0', []), (ev0, an0', [c])] := by
  have e : steps T (fun k => if k < 2 then [] else [c]) 3 = [(evF m, an0', []), (evH z, an0', []), (ev0, an0', [c])] := by
    show [((T 0).1, (T 0).2.1, ([] : List Cmd)), ((T 1).1, (T 1).2.1, []), ((T 2).1, (T 2).2.1, [c])] = _
    rw [h0, h1, h2]
  rw [← e]
  refine SL_of h h.lt (fun k hk => ?_)
  match k, hk with
  | 0, _ => rw [h0]; exact ⟨rfl, CL.nil _ _ _, fun c hc => (by cases hc)⟩
  | 1, _ => rw [h1]; exact ⟨rfl, CL.nil _ _ _, fun c hc => (by cases hc)⟩
  | 2, _ =>
    rw [h2]
    refine ⟨rfl, CL.one hq (lt_of_row hq), fun d hd => ?_⟩
    obtain rfl := List.mem_singleton.1 hd
    exact hc
theorem Row.none {w : World} {t : TypeId} (T : Nat → Sx) {g : Nat} (h : w.heap[g]? = some (.cells #[] t (0, 0))) : Row sic 15 t w g 0 0 T := ⟨[], h, rfl, Nat.le_refl _, by decide, fun j hj => by omega⟩

theorem rng3 (w : World) (o : Obj) (t : TypeId) : ((w.alloc o).alloc (.cells (sic (ev0, an0', some w.heap.size, 1)).toArray t)).rangeAt (w.heap.size + 1) 0 (sic (ev0, an0', some w.heap.size, 1)) := by
  have := range_new (w.alloc o) (sic (ev0, an0', some w.heap.size, 1)) t
  rw [World.size_alloc] at this
  exact this
set_option maxRecDepth 100000 in
set_option maxHeartbeats 6400000 in
theorem amem_walk (x0 x1 x2 : Int) (w : World) : Calls Try.prog 4 #[.int .i64 x0, .int .i64 x1, .int .i64 x2] w fun e w' => e = .returned (.bool true) ∧ Below w.heap.size w w' := by
  obtain ⟨z, hz, hz8⟩ := and_nat x0 63 6 64 (by decide) (by decide) (by decide)
  obtain ⟨k1, hk1, hk8⟩ := and_nat x1 15 4 16 (by decide) (by decide) (by decide)
  obtain ⟨n, hn, hn8⟩ := and_nat x2 31 5 32 (by decide) (by decide) (by decide)
  obtain ⟨m, hm⟩ : ∃ m : Nat, m = 1 + k1 := ⟨_, rfl⟩
  have hw1 : IntKind.i64.wrap (1 + (k1 : Int)) = (m : Int) := by rw [wr_small (by omega) (by omega)]; omega
  have hm0 : 1 ≤ m := by omega
  have hm16 : m ≤ 16 := by omega
  clear hm
  obtain ⟨iS, hi1, hi2, hi3, hi4⟩ := info3' infoS
  go_enter Try.func4, Try.ntmps4
  go_wp2_with fail
  refine (head19 w).mono ?_
  rintro e w1 ⟨rfl, b1⟩
  go_upto_region 7 with (fail)
  have hro := heap_alloc_new w1 (.cells #[.int .i64 2, .int .i64 0, .int .i64 0, .int .i64 0, .int .i64 0, .int .i64 0, .int .i64 (m : Int), .int .i64 0, .int .i64 0, .int .i64 0, .int .i64 0, .int .i64 0, .int .i64 0, .int .i64 0, .slice none 0 0, .int .i64 3, .int .i64 0, .int .i64 0, .int .i64 (z : Int), .int .i64 0, .int .i64 0, .int .i64 0, .int .i64 0, .int .i64 0, .int .i64 0, .int .i64 0, .int .i64 0, .int .i64 0, .int .i64 0, .slice none 0 0] 34)
  have b2 := b1.alloc b1.size (.cells #[.int .i64 2, .int .i64 0, .int .i64 0, .int .i64 0, .int .i64 0, .int .i64 0, .int .i64 (m : Int), .int .i64 0, .int .i64 0, .int .i64 0, .int .i64 0, .int .i64 0, .int .i64 0, .int .i64 0, .slice none 0 0, .int .i64 3, .int .i64 0, .int .i64 0, .int .i64 (z : Int), .int .i64 0, .int .i64 0, .int .i64 0, .int .i64 0, .int .i64 0, .int .i64 0, .int .i64 0, .int .i64 0, .int .i64 0, .int .i64 0, .slice none 0 0] 34)
  have hlow := b1.size
  have hml : Ml w.heap.size m z (w1.alloc (.cells #[.int .i64 2, .int .i64 0, .int .i64 0, .int .i64 0, .int .i64 0, .int .i64 0, .int .i64 (m : Int), .int .i64 0, .int .i64 0, .int .i64 0, .int .i64 0, .int .i64 0, .int .i64 0, .int .i64 0, .slice none 0 0, .int .i64 3, .int .i64 0, .int .i64 0, .int .i64 (z : Int), .int .i64 0, .int .i64 0, .int .i64 0, .int .i64 0, .int .i64 0, .int .i64 0, .int .i64 0, .int .i64 0, .int .i64 0, .int .i64 0, .slice none 0 0] 34)) w1.heap.size 0 2 (fun k => if k = 0 then (evF m, an0', none, 0) else (evH z, an0', none, 0)) :=
    ⟨Row.lit (n := 2) _ hro rfl (by decide), hlow, rfl, rfl, fun j hj => by omega⟩
  obtain ⟨g0, hg0⟩ : ∃ g, w1.heap.size = g := ⟨_, rfl⟩
  rw [hg0] at hml
  rw [hg0]
  generalize w1.alloc (.cells #[.int .i64 2, .int .i64 0, .int .i64 0, .int .i64 0, .int .i64 0, .int .i64 0, .int .i64 (m : Int), .int .i64 0, .int .i64 0, .int .i64 0, .int .i64 0, .int .i64 0, .int .i64 0, .int .i64 0, .slice none 0 0, .int .i64 3, .int .i64 0, .int .i64 0, .int .i64 (z : Int), .int .i64 0, .int .i64 0, .int .i64 0, .int .i64 0, .int .i64 0, .int .i64 0, .int .i64 0, .int .i64 0, .int .i64 0, .int .i64 0, .slice none 0 0] 34) = w2 at hml b2 ⊢
  clear hro hlow hg0 b1 hz hk1 hn hw1
  go_wp2_with fail
  go_loopg [7, 8] n (fun gk v7 v8 wr => ∃ (i g cap : Nat) (T : Nat → Sx), v7 = .slice (some ⟨g, 0, none⟩) (i + 2) cap ∧ v8 = .int .i64 (i : Int) ∧ i + gk = n ∧ Hid (Ml w.heap.size m z wr g i cap T) ∧ Hid (Below w.heap.size w wr))
  case atStart => exact ⟨0, g0, 2, _, rfl, rfl, by omega, Lib.hid hml, Lib.hid b2⟩
  case round =>
    clear hml b2
    obtain ⟨i, g, cap, T, rfl, rfl, hin, HML, HBL⟩ := hrel
    have HIN := Lib.hid hin
    by_cases hi : i < n
    · have hii : (i : Int) < (n : Int) := by omega
      have hwi : IntKind.i64.wrap ((i : Int) + 1) = (i : Int) + 1 := wr_small (by omega) (by omega)
      have o2 := ((Only.refl wr (fun _ => False)).alloc (.cells #[.bool true, .int .i64 ((i : Int) + 1), .int .i64 0, .int .i64 0] 38)).alloc (.cells #[.int .i64 0, .int .i64 0, .int .i64 0, .int .i64 0, .int .i64 0, .int .i64 0, .int .i64 0, .int .i64 0, .int .i64 0, .int .i64 0, .int .i64 0, .int .i64 0, .int .i64 0, .int .i64 0, .slice (some ⟨wr.heap.size, 0, none⟩) 1 1] 34)
      have hml2 := HML.out.kept o2 (fun _ _ q => q)
      have hcr := ((Only.refl _ (fun _ => False)).alloc (.cells #[.int .i64 0, .int .i64 0, .int .i64 0, .int .i64 0, .int .i64 0, .int .i64 0, .int .i64 0, .int .i64 0, .int .i64 0, .int .i64 0, .int .i64 0, .int .i64 0, .int .i64 0, .int .i64 0, .slice (some ⟨wr.heap.size, 0, none⟩) 1 1] 34)).blk (fun q => q) (heap_alloc_new wr (.cells #[.bool true, .int .i64 ((i : Int) + 1), .int .i64 0, .int .i64 0] 38))
      have hrg : ((wr.alloc (.cells #[.bool true, .int .i64 ((i : Int) + 1), .int .i64 0, .int .i64 0] 38)).alloc (.cells #[.int .i64 0, .int .i64 0, .int .i64 0, .int .i64 0, .int .i64 0, .int .i64 0, .int .i64 0, .int .i64 0, .int .i64 0, .int .i64 0, .int .i64 0, .int .i64 0, .int .i64 0, .int .i64 0, .slice (some ⟨wr.heap.size, 0, none⟩) 1 1] 34)).rangeAt (wr.heap.size + 1) 0 (sic (ev0, an0', some wr.heap.size, 1)) := by
        have := range_new (wr.alloc (.cells #[.bool true, .int .i64 ((i : Int) + 1), .int .i64 0, .int .i64 0] 38)) (sic (ev0, an0', some wr.heap.size, 1)) 34
        rw [World.size_alloc] at this
        exact this
      have hits : Its sic 15 34 ((wr.alloc (.cells #[.bool true, .int .i64 ((i : Int) + 1), .int .i64 0, .int .i64 0] 38)).alloc (.cells #[.int .i64 0, .int .i64 0, .int .i64 0, .int .i64 0, .int .i64 0, .int .i64 0, .int .i64 0, .int .i64 0, .int .i64 0, .int .i64 0, .int .i64 0, .int .i64 0, .int .i64 0, .int .i64 0, .slice (some ⟨wr.heap.size, 0, none⟩) 1 1] 34)) (.slice (some ⟨g, 0, none⟩) (i + 2) cap) (some g) (i + 2) T := Or.inr ⟨g, cap, rfl, rfl, hml2.row⟩
      have hmx : i + 2 + 1 ≤ maxLen := by
        have : (1073741824 : Nat) < maxLen := by decide
        omega
      have hby : (i + 2 + 1) * 136 ≤ 140737488355328 := by omega
      have hgl := HML.out.row.lt
      have hsz : ((wr.alloc (.cells #[.bool true, .int .i64 ((i : Int) + 1), .int .i64 0, .int .i64 0] 38)).alloc (.cells #[.int .i64 0, .int .i64 0, .int .i64 0, .int .i64 0, .int .i64 0, .int .i64 0, .int .i64 0, .int .i64 0, .int .i64 0, .int .i64 0, .int .i64 0, .int .i64 0, .int .i64 0, .int .i64 0, .slice (some ⟨wr.heap.size, 0, none⟩) 1 1] 34)).heap.size = wr.heap.size + 2 := by rw [World.size_alloc, World.size_alloc]
      have HSZ := Lib.hid hsz
      have HCR := Lib.hid hcr
      have HM2 := Lib.hid hml2
      have HO2 := Lib.hid o2
      clear hin hsz hcr hml2 o2
      go_wp2_with (first
        | (at_builtin; refine wpList_item_app encS rfl (.tmp 33) (.tmp 39) 22 rfl iS _ 136 Try.underlying22 hi1 hi2 hi3 hi4 rfl _ (some g) (i + 2) T rfl hits (ev0, an0', some wr.heap.size, 1) (wr.heap.size + 1) rfl hrg hmx hby ?_; intro g' cap' w5 row5 hon5 hgg5))
      have hon := hon5 (fun j => j = g) (fun g' q => by cases q; rfl)
      have hgg : g' = g ∨ wr.heap.size + 2 ≤ g' := by
        rcases hgg5 with q | q
        · left; injection q with q; exact q.symm
        · right; rw [HSZ.out] at q; exact q
      have hbl := HBL.out.size
      have hml5 : Ml w.heap.size m z w5 g' (i + 1) cap' (upd T (i + 2) (ev0, an0', some wr.heap.size, 1)) := by
        refine ⟨row5, by have := HML.out.low; omega, by rw [upd_ne _ _ (by omega)]; exact HML.out.t0, by rw [upd_ne _ _ (by omega)]; exact HML.out.t1, fun j hj => ?_⟩
        by_cases e : j = i
        · subst e
          exact ⟨wr.heap.size, by rw [upd_same], by omega, hon.blk (fun q => by omega) HCR.out⟩
        · obtain ⟨q, h1, h2, h3⟩ := HML.out.tj j (by omega)
          have hq := lt_of_row h3
          exact ⟨q, by rw [upd_ne _ _ (by omega)]; exact h1, by omega, hon.blk h2 (HO2.out.blk (fun q => q) h3)⟩
      have hb5 : Below w.heap.size w w5 := HBL.out.trans (((HO2.out.mono (fun j q => q.elim) : Only wr _ (fun j => j = g)).tr hon).below (fun j q => by rw [q]; exact HML.out.low) hbl)
      have H5 := Lib.hid hml5
      have HB5 := Lib.hid hb5
      clear hml5 hb5 row5 hon5 hgg5 hon hgg hits hrg hwi HML HBL HCR HM2 HO2 HSZ hgl hbl
      go_wp2_with fail
      go_roundg (n - i - 1)
      case measure => have := HIN.out; omega
      case rel => exact ⟨i + 1, g', cap', _, by rw [show i + 1 + 2 = i + 2 + 1 by omega], by go_num, by have := HIN.out; omega, H5, HB5⟩
    · obtain rfl : i = n := by omega
      have hd : decide ((i : Int) < (i : Int)) = false := by simp
      clear hin hi
      have hnm : (i : Int) * (m : Int) ≤ 1024 ∧ 0 ≤ (i : Int) * (m : Int) := by
        have h1 : i * m ≤ 32 * 16 := Nat.mul_le_mul (by omega) hm16
        have h2 : ((i * m : Nat) : Int) = (i : Int) * (m : Int) := Int.natCast_mul _ _
        omega
      obtain ⟨P, hP⟩ : ∃ P, (i : Int) * (m : Int) = P := ⟨_, rfl⟩
      have hwp : IntKind.i64.wrap ((i : Int) * (m : Int)) = P := by rw [hP]; exact wr_small (by omega) (by omega)
      have hF := fst_ls m z i (by omega) (by omega) (by omega) (by omega)
      rw [hP] at hF hnm
      have HP := Lib.hid hP
      obtain ⟨R, hR⟩ : ∃ R, fst_ Wd.zero 0 (ls m z i) = R := ⟨_, rfl⟩
      rw [hR] at hF
      have HR := Lib.hid hR
      clear hR hP
      have hml := HML.out
      have hbl := HBL.out
      have hmz : ((m : Int) == 0) = false := beq_false_of_ne (by omega)
      have htd : Int.tdiv (z : Int) (m : Int) = ((z / m : Nat) : Int) := (Int.ofNat_tdiv z m).symm
      have hzm : z / m ≤ 64 := Nat.le_trans (Nat.div_le_self z m) (by omega)
      have hcz : ((z / m : Nat) : Int) = (z : Int) / (m : Int) := Int.natCast_ediv z m
      obtain ⟨q, hq⟩ : ∃ q : Nat, z / m = q := ⟨_, rfl⟩
      rw [hq] at htd hzm hcz
      have hwq : IntKind.i64.wrap (q : Int) = (q : Int) := wr_small (by omega) (by omega)
      have hwq2 : IntKind.i64.wrap (2 + (q : Int)) = 2 + (q : Int) := wr_small (by omega) (by omega)
      clear hq
      by_cases hgt : (z : Int) < P
      · have hd2 : decide ((z : Int) < P) = true := decide_eq_true hgt
        rw [if_pos hgt, ← hcz] at hF
        have HF := Lib.hid hF
        clear hcz hF
        go_upto_region 14 with (fail)
        have hmla := hml
        have rowE := Row.none T (heap_alloc_new wr (.cells #[] 34))
        have mlE := hmla.kept ((Only.refl wr (fun _ => False)).alloc (.cells #[] 34)) (fun _ _ q => q)
        have itsE : Its sic 15 34 (wr.alloc (.cells #[] 34)) (.slice (some ⟨g, 0, none⟩) 2 cap) (some g) 2 T := Or.inr ⟨g, cap, rfl, rfl, mlE.row.less (by omega)⟩
        have hcap2 : 2 ≤ cap := by have := mlE.row.cap_.1; omega
        have hmx2 : 0 + 2 ≤ maxLen := by decide
        have hmx3 : 2 + 1 ≤ maxLen := by decide
        go_upto_region 15 with (first
          | (with_reducible refine wpList_upto rfl (.tmp 51) (.const (.int .i64 2)) 22 rfl 34 iS Try.underlying22 hi1 (some ⟨g, 0, none⟩) (i + 2) cap 2 .i64 2 rfl rfl rfl hcap2 (fun _ _ => trivial) ?_; intro A1 HA1; obtain rfl : A1 = some ⟨g, 0, none⟩ := HA1.out.elim id (fun q => absurd q.1 (by decide)))
          | (at_builtin; refine wpList_item_appN encS rfl (.tmp 50) (.tmp 52) 22 rfl iS _ 136 Try.underlying22 hi1 hi2 hi3 hi4 rfl wr.heap.size 0 0 T rfl rowE _ (some g) 2 T rfl itsE hmx2 (by decide) ?_; intro g1a cap1a w3a row3a hon3a hg3a; have rowAa : Row sic 15 34 w3a g1a 2 cap1a T := row3a.ext (fun j hj => rfl); have oAa := ((Only.refl w3a (fun _ => False)).alloc (.cells #[.bool true, .int .i64 1, .int .i64 1, .int .i64 0] 38)).alloc (.cells #[.int .i64 0, .int .i64 0, .int .i64 0, .int .i64 0, .int .i64 0, .int .i64 0, .int .i64 0, .int .i64 0, .int .i64 0, .int .i64 0, .int .i64 0, .int .i64 0, .int .i64 0, .int .i64 0, .slice (some ⟨w3a.heap.size, 0, none⟩) 1 1] 34); have rowBa := rowAa.kept oAa (fun q => q); have itsBa : Its sic 15 34 ((w3a.alloc (.cells #[.bool true, .int .i64 1, .int .i64 1, .int .i64 0] 38)).alloc (.cells #[.int .i64 0, .int .i64 0, .int .i64 0, .int .i64 0, .int .i64 0, .int .i64 0, .int .i64 0, .int .i64 0, .int .i64 0, .int .i64 0, .int .i64 0, .int .i64 0, .int .i64 0, .int .i64 0, .slice (some ⟨w3a.heap.size, 0, none⟩) 1 1] 34)) (.slice (some ⟨g1a, 0, none⟩) 2 cap1a) (some g1a) 2 T := Or.inr ⟨g1a, cap1a, rfl, rfl, rowBa⟩; have hcra := ((Only.refl _ (fun _ => False)).alloc (.cells #[.int .i64 0, .int .i64 0, .int .i64 0, .int .i64 0, .int .i64 0, .int .i64 0, .int .i64 0, .int .i64 0, .int .i64 0, .int .i64 0, .int .i64 0, .int .i64 0, .int .i64 0, .int .i64 0, .slice (some ⟨w3a.heap.size, 0, none⟩) 1 1] 34)).blk (fun q => q) (heap_alloc_new w3a (.cells #[.bool true, .int .i64 1, .int .i64 1, .int .i64 0] 38)); have hrga : ((w3a.alloc (.cells #[.bool true, .int .i64 1, .int .i64 1, .int .i64 0] 38)).alloc (.cells #[.int .i64 0, .int .i64 0, .int .i64 0, .int .i64 0, .int .i64 0, .int .i64 0, .int .i64 0, .int .i64 0, .int .i64 0, .int .i64 0, .int .i64 0, .int .i64 0, .int .i64 0, .int .i64 0, .slice (some ⟨w3a.heap.size, 0, none⟩) 1 1] 34)).rangeAt (w3a.heap.size + 1) 0 (sic (ev0, an0', some w3a.heap.size, 1)) := rng3 w3a (.cells #[.bool true, .int .i64 1, .int .i64 1, .int .i64 0] 38) 34)
          | (at_builtin; refine wpList_item_app encS rfl (.tmp 53) (.tmp 57) 22 rfl iS _ 136 Try.underlying22 hi1 hi2 hi3 hi4 rfl _ (some g1a) 2 T rfl itsBa (ev0, an0', some w3a.heap.size, 1) (w3a.heap.size + 1) rfl hrga hmx3 (by decide) ?_; intro g2a cap2a w5a row5a hon5a hgg5a))
        have hon6a := hon5a (fun j => j = g1a) (fun g' q => by cases q; rfl)
        have hb3a : Below wr.heap.size wr w3a := ((Below.refl _ _).alloc (Nat.le_refl _) _).trans (hon3a.below (fun j q => by rw [q]; exact Nat.le_refl _) (by rw [World.size_alloc]; omega))
        have hg1a : wr.heap.size ≤ g1a := by
          rcases hg3a with q | q
          · omega
          · rw [World.size_alloc] at q; omega
        have hb5a : Below wr.heap.size wr w5a := hb3a.trans (((oAa.mono (fun j q => q.elim) : Only w3a _ (fun j => j = g1a)).tr hon6a).below (fun j q => by rw [q]; exact hg1a) hb3a.size)
        have hlta := rowAa.lt
        have hcr5a := hon6a.blk (fun q => by omega) hcra
        have hup0a : upd T 2 (ev0, an0', some w3a.heap.size, 1) 0 = (evF m, an0', none, 0) := by rw [upd_ne _ _ (by decide)]; exact hmla.t0
        have hup1a : upd T 2 (ev0, an0', some w3a.heap.size, 1) 1 = (evH z, an0', none, 0) := by rw [upd_ne _ _ (by decide)]; exact hmla.t1
        have hup2a : upd T 2 (ev0, an0', some w3a.heap.size, 1) 2 = (ev0, an0', some w3a.heap.size, 1) := upd_same _ _ _
        have R5a := Lib.hid row5a
        have C5a := Lib.hid hcr5a
        have U0a := Lib.hid hup0a
        have U1a := Lib.hid hup1a
        have U2a := Lib.hid hup2a
        have B5a := Lib.hid hb5a
        clear rowE mlE itsE hcap2 hmx2 hmx3 row3a hon3a hg3a rowAa oAa rowBa itsBa hcra hrga row5a hon5a hgg5a hon6a hb3a hg1a hb5a hlta hcr5a hup0a hup1a hup2a HA1
        have hmlb := hmla.kept (Only.of_below (S := fun j => wr.heap.size ≤ j) B5a.out) (fun j q q' => by omega)
        have rowE := Row.none T (heap_alloc_new w5a (.cells #[] 34))
        have mlE := hmlb.kept ((Only.refl w5a (fun _ => False)).alloc (.cells #[] 34)) (fun _ _ q => q)
        have itsE : Its sic 15 34 (w5a.alloc (.cells #[] 34)) (.slice (some ⟨g, 0, none⟩) 2 cap) (some g) 2 T := Or.inr ⟨g, cap, rfl, rfl, mlE.row.less (by omega)⟩
        have hcap2 : 2 ≤ cap := by have := mlE.row.cap_.1; omega
        have hmx2 : 0 + 2 ≤ maxLen := by decide
        have hmx3 : 2 + 1 ≤ maxLen := by decide
        go_upto_region 16 with (first
          | (with_reducible refine wpList_upto rfl (.tmp 60) (.const (.int .i64 2)) 22 rfl 34 iS Try.underlying22 hi1 (some ⟨g, 0, none⟩) (i + 2) cap 2 .i64 2 rfl rfl rfl hcap2 (fun _ _ => trivial) ?_; intro A1 HA1; obtain rfl : A1 = some ⟨g, 0, none⟩ := HA1.out.elim id (fun q => absurd q.1 (by decide)))
          | (at_builtin; refine wpList_item_appN encS rfl (.tmp 59) (.tmp 61) 22 rfl iS _ 136 Try.underlying22 hi1 hi2 hi3 hi4 rfl w5a.heap.size 0 0 T rfl rowE _ (some g) 2 T rfl itsE hmx2 (by decide) ?_; intro g1b cap1b w3b row3b hon3b hg3b; have rowAb : Row sic 15 34 w3b g1b 2 cap1b T := row3b.ext (fun j hj => rfl); have oAb := ((Only.refl w3b (fun _ => False)).alloc (.cells #[.bool true, .int .i64 1, .int .i64 0, .int .i64 1] 38)).alloc (.cells #[.int .i64 0, .int .i64 0, .int .i64 0, .int .i64 0, .int .i64 0, .int .i64 0, .int .i64 0, .int .i64 0, .int .i64 0, .int .i64 0, .int .i64 0, .int .i64 0, .int .i64 0, .int .i64 0, .slice (some ⟨w3b.heap.size, 0, none⟩) 1 1] 34); have rowBb := rowAb.kept oAb (fun q => q); have itsBb : Its sic 15 34 ((w3b.alloc (.cells #[.bool true, .int .i64 1, .int .i64 0, .int .i64 1] 38)).alloc (.cells #[.int .i64 0, .int .i64 0, .int .i64 0, .int .i64 0, .int .i64 0, .int .i64 0, .int .i64 0, .int .i64 0, .int .i64 0, .int .i64 0, .int .i64 0, .int .i64 0, .int .i64 0, .int .i64 0, .slice (some ⟨w3b.heap.size, 0, none⟩) 1 1] 34)) (.slice (some ⟨g1b, 0, none⟩) 2 cap1b) (some g1b) 2 T := Or.inr ⟨g1b, cap1b, rfl, rfl, rowBb⟩; have hcrb := ((Only.refl _ (fun _ => False)).alloc (.cells #[.int .i64 0, .int .i64 0, .int .i64 0, .int .i64 0, .int .i64 0, .int .i64 0, .int .i64 0, .int .i64 0, .int .i64 0, .int .i64 0, .int .i64 0, .int .i64 0, .int .i64 0, .int .i64 0, .slice (some ⟨w3b.heap.size, 0, none⟩) 1 1] 34)).blk (fun q => q) (heap_alloc_new w3b (.cells #[.bool true, .int .i64 1, .int .i64 0, .int .i64 1] 38)); have hrgb : ((w3b.alloc (.cells #[.bool true, .int .i64 1, .int .i64 0, .int .i64 1] 38)).alloc (.cells #[.int .i64 0, .int .i64 0, .int .i64 0, .int .i64 0, .int .i64 0, .int .i64 0, .int .i64 0, .int .i64 0, .int .i64 0, .int .i64 0, .int .i64 0, .int .i64 0, .int .i64 0, .int .i64 0, .slice (some ⟨w3b.heap.size, 0, none⟩) 1 1] 34)).rangeAt (w3b.heap.size + 1) 0 (sic (ev0, an0', some w3b.heap.size, 1)) := rng3 w3b (.cells #[.bool true, .int .i64 1, .int .i64 0, .int .i64 1] 38) 34)
          | (at_builtin; refine wpList_item_app encS rfl (.tmp 62) (.tmp 66) 22 rfl iS _ 136 Try.underlying22 hi1 hi2 hi3 hi4 rfl _ (some g1b) 2 T rfl itsBb (ev0, an0', some w3b.heap.size, 1) (w3b.heap.size + 1) rfl hrgb hmx3 (by decide) ?_; intro g2b cap2b w5b row5b hon5b hgg5b))
        have hon6b := hon5b (fun j => j = g1b) (fun g' q => by cases q; rfl)
        have hb3b : Below w5a.heap.size w5a w3b := ((Below.refl _ _).alloc (Nat.le_refl _) _).trans (hon3b.below (fun j q => by rw [q]; exact Nat.le_refl _) (by rw [World.size_alloc]; omega))
        have hg1b : w5a.heap.size ≤ g1b := by
          rcases hg3b with q | q
          · omega
          · rw [World.size_alloc] at q; omega
        have hb5b : Below w5a.heap.size w5a w5b := hb3b.trans (((oAb.mono (fun j q => q.elim) : Only w3b _ (fun j => j = g1b)).tr hon6b).below (fun j q => by rw [q]; exact hg1b) hb3b.size)
        have hltb := rowAb.lt
        have hcr5b := hon6b.blk (fun q => by omega) hcrb
        have hup0b : upd T 2 (ev0, an0', some w3b.heap.size, 1) 0 = (evF m, an0', none, 0) := by rw [upd_ne _ _ (by decide)]; exact hmlb.t0
        have hup1b : upd T 2 (ev0, an0', some w3b.heap.size, 1) 1 = (evH z, an0', none, 0) := by rw [upd_ne _ _ (by decide)]; exact hmlb.t1
        have hup2b : upd T 2 (ev0, an0', some w3b.heap.size, 1) 2 = (ev0, an0', some w3b.heap.size, 1) := upd_same _ _ _
        have R5b := Lib.hid row5b
        have C5b := Lib.hid hcr5b
        have U0b := Lib.hid hup0b
        have U1b := Lib.hid hup1b
        have U2b := Lib.hid hup2b
        have B5b := Lib.hid hb5b
        clear rowE mlE itsE hcap2 hmx2 hmx3 row3b hon3b hg3b rowAb oAb rowBb itsBb hcrb hrgb row5b hon5b hgg5b hon6b hb3b hg1b hb5b hltb hcr5b hup0b hup1b hup2b HA1
        have hmlc := hmlb.kept (Only.of_below (S := fun j => w5a.heap.size ≤ j) B5b.out) (fun j q q' => by omega)
        have S1 := hmlc.sl (by omega)
        have S3 := sl3 (c := (true, 1, 0, 1)) R5b.out U0b.out U1b.out U2b.out C5b.out ⟨(by decide : (Lit.int .i64 1).wf = true), (by decide : (Lit.int .i64 0).wf = true), (by decide : (Lit.int .i64 1).wf = true)⟩
        have S2a := sl3 (c := (true, 1, 1, 0)) R5a.out U0a.out U1a.out U2a.out C5a.out ⟨(by decide : (Lit.int .i64 1).wf = true), (by decide : (Lit.int .i64 1).wf = true), (by decide : (Lit.int .i64 0).wf = true)⟩
        have S2 := (S2a.keep (w' := w5b) (fun j hj => B5b.out.block j hj)).up B5b.out.size
        have hbz := hbl.trans ((B5a.out.mono hbl.size).trans (B5b.out.mono (Nat.le_trans hbl.size B5a.out.size)))
        have F1 := Lib.hid (c_First w5b _ (i + 2) cap _ (by simp [ls]) S1 (tot_ls m z i (by omega)))
        have HS2 := Lib.hid S2
        have HS3 := Lib.hid S3
        have hma : (1 : Int) ≤ (m : Int) ∧ (m : Int) ≤ 2147483647 ∧ (0 : Int) ≤ (z : Int) ∧ (z : Int) ≤ 2147483647 := by omega
        have HFO := Lib.hid (fst_other m z (by omega) hma.2.1 hma.2.2.1 hma.2.2.2)
        have HFA := Lib.hid (fst_far m z (by omega) hma.2.1 hma.2.2.1 hma.2.2.2)
        clear S1 S2 S2a S3 hmla hmlb hmlc hml hbl hma R5a C5a U0a U1a U2a B5a R5b C5b U0b U1b U2b B5b
        go_wp2_with fail
        refine F1.out.mono ?_
        rintro e7 w7 ⟨rfl, b7⟩
        rw [HR.out, HF.out]
        have HS2' := Lib.hid ((HS2.out.keep (w' := w7) (fun j hj => b7.block j hj)).up b7.size)
        have HS3' := Lib.hid ((HS3.out.keep (w' := w7) (fun j hj => b7.block j hj)).up b7.size)
        have F2 := Lib.hid (c_First w7 _ 3 cap2a _ rfl HS2'.out (show (8 : Nat) < 1048000 by decide))
        have bz7 := hbz.trans (b7.mono hbz.size)
        clear b7 HS2 HS3 F1 hbz
        go_wp2_with fail
        refine F2.out.mono ?_
        rintro e8 w8 ⟨rfl, b8⟩
        rw [HFO.out]
        have HS3'' := Lib.hid ((HS3'.out.keep (w' := w8) (fun j hj => b8.block j hj)).up b8.size)
        have F3 := Lib.hid (c_First w8 _ 3 cap2b _ rfl HS3''.out (show (8 : Nat) < 1048000 by decide))
        have bz8 := bz7.trans (b8.mono bz7.size)
        clear b8 HS2' HS3' F2 bz7
        go_wp2_with fail
        refine F3.out.mono ?_
        rintro e9 w9 ⟨rfl, b9⟩
        rw [HFA.out]
        have bz9 := bz8.trans (b9.mono bz8.size)
        clear b9 HS3'' F3 bz8
        go_wp2
        go_ret
        exact ⟨rfl, bz9⟩
      · have hd2 : decide ((z : Int) < P) = false := dec_f hgt
        rw [if_neg hgt] at hF
        have HF := Lib.hid hF
        clear hcz hF
        go_upto_region 14 with (fail)
        have hmla := hml
        have rowE := Row.none T (heap_alloc_new wr (.cells #[] 34))
        have mlE := hmla.kept ((Only.refl wr (fun _ => False)).alloc (.cells #[] 34)) (fun _ _ q => q)
        have itsE : Its sic 15 34 (wr.alloc (.cells #[] 34)) (.slice (some ⟨g, 0, none⟩) 2 cap) (some g) 2 T := Or.inr ⟨g, cap, rfl, rfl, mlE.row.less (by omega)⟩
        have hcap2 : 2 ≤ cap := by have := mlE.row.cap_.1; omega
        have hmx2 : 0 + 2 ≤ maxLen := by decide
        have hmx3 : 2 + 1 ≤ maxLen := by decide
        go_upto_region 15 with (first
          | (with_reducible refine wpList_upto rfl (.tmp 51) (.const (.int .i64 2)) 22 rfl 34 iS Try.underlying22 hi1 (some ⟨g, 0, none⟩) (i + 2) cap 2 .i64 2 rfl rfl rfl hcap2 (fun _ _ => trivial) ?_; intro A1 HA1; obtain rfl : A1 = some ⟨g, 0, none⟩ := HA1.out.elim id (fun q => absurd q.1 (by decide)))
          | (at_builtin; refine wpList_item_appN encS rfl (.tmp 50) (.tmp 52) 22 rfl iS _ 136 Try.underlying22 hi1 hi2 hi3 hi4 rfl wr.heap.size 0 0 T rfl rowE _ (some g) 2 T rfl itsE hmx2 (by decide) ?_; intro g1a cap1a w3a row3a hon3a hg3a; have rowAa : Row sic 15 34 w3a g1a 2 cap1a T := row3a.ext (fun j hj => rfl); have oAa := ((Only.refl w3a (fun _ => False)).alloc (.cells #[.bool true, .int .i64 1, .int .i64 1, .int .i64 0] 38)).alloc (.cells #[.int .i64 0, .int .i64 0, .int .i64 0, .int .i64 0, .int .i64 0, .int .i64 0, .int .i64 0, .int .i64 0, .int .i64 0, .int .i64 0, .int .i64 0, .int .i64 0, .int .i64 0, .int .i64 0, .slice (some ⟨w3a.heap.size, 0, none⟩) 1 1] 34); have rowBa := rowAa.kept oAa (fun q => q); have itsBa : Its sic 15 34 ((w3a.alloc (.cells #[.bool true, .int .i64 1, .int .i64 1, .int .i64 0] 38)).alloc (.cells #[.int .i64 0, .int .i64 0, .int .i64 0, .int .i64 0, .int .i64 0, .int .i64 0, .int .i64 0, .int .i64 0, .int .i64 0, .int .i64 0, .int .i64 0, .int .i64 0, .int .i64 0, .int .i64 0, .slice (some ⟨w3a.heap.size, 0, none⟩) 1 1] 34)) (.slice (some ⟨g1a, 0, none⟩) 2 cap1a) (some g1a) 2 T := Or.inr ⟨g1a, cap1a, rfl, rfl, rowBa⟩; have hcra := ((Only.refl _ (fun _ => False)).alloc (.cells #[.int .i64 0, .int .i64 0, .int .i64 0, .int .i64 0, .int .i64 0, .int .i64 0, .int .i64 0, .int .i64 0, .int .i64 0, .int .i64 0, .int .i64 0, .int .i64 0, .int .i64 0, .int .i64 0, .slice (some ⟨w3a.heap.size, 0, none⟩) 1 1] 34)).blk (fun q => q) (heap_alloc_new w3a (.cells #[.bool true, .int .i64 1, .int .i64 1, .int .i64 0] 38)); have hrga : ((w3a.alloc (.cells #[.bool true, .int .i64 1, .int .i64 1, .int .i64 0] 38)).alloc (.cells #[.int .i64 0, .int .i64 0, .int .i64 0, .int .i64 0, .int .i64 0, .int .i64 0, .int .i64 0, .int .i64 0, .int .i64 0, .int .i64 0, .int .i64 0, .int .i64 0, .int .i64 0, .int .i64 0, .slice (some ⟨w3a.heap.size, 0, none⟩) 1 1] 34)).rangeAt (w3a.heap.size + 1) 0 (sic (ev0, an0', some w3a.heap.size, 1)) := rng3 w3a (.cells #[.bool true, .int .i64 1, .int .i64 1, .int .i64 0] 38) 34)
          | (at_builtin; refine wpList_item_app encS rfl (.tmp 53) (.tmp 57) 22 rfl iS _ 136 Try.underlying22 hi1 hi2 hi3 hi4 rfl _ (some g1a) 2 T rfl itsBa (ev0, an0', some w3a.heap.size, 1) (w3a.heap.size + 1) rfl hrga hmx3 (by decide) ?_; intro g2a cap2a w5a row5a hon5a hgg5a))
        have hon6a := hon5a (fun j => j = g1a) (fun g' q => by cases q; rfl)
        have hb3a : Below wr.heap.size wr w3a := ((Below.refl _ _).alloc (Nat.le_refl _) _).trans (hon3a.below (fun j q => by rw [q]; exact Nat.le_refl _) (by rw [World.size_alloc]; omega))
        have hg1a : wr.heap.size ≤ g1a := by
          rcases hg3a with q | q
          · omega
          · rw [World.size_alloc] at q; omega
        have hb5a : Below wr.heap.size wr w5a := hb3a.trans (((oAa.mono (fun j q => q.elim) : Only w3a _ (fun j => j = g1a)).tr hon6a).below (fun j q => by rw [q]; exact hg1a) hb3a.size)
        have hlta := rowAa.lt
        have hcr5a := hon6a.blk (fun q => by omega) hcra
        have hup0a : upd T 2 (ev0, an0', some w3a.heap.size, 1) 0 = (evF m, an0', none, 0) := by rw [upd_ne _ _ (by decide)]; exact hmla.t0
        have hup1a : upd T 2 (ev0, an0', some w3a.heap.size, 1) 1 = (evH z, an0', none, 0) := by rw [upd_ne _ _ (by decide)]; exact hmla.t1
        have hup2a : upd T 2 (ev0, an0', some w3a.heap.size, 1) 2 = (ev0, an0', some w3a.heap.size, 1) := upd_same _ _ _
        have R5a := Lib.hid row5a
        have C5a := Lib.hid hcr5a
        have U0a := Lib.hid hup0a
        have U1a := Lib.hid hup1a
        have U2a := Lib.hid hup2a
        have B5a := Lib.hid hb5a
        clear rowE mlE itsE hcap2 hmx2 hmx3 row3a hon3a hg3a rowAa oAa rowBa itsBa hcra hrga row5a hon5a hgg5a hon6a hb3a hg1a hb5a hlta hcr5a hup0a hup1a hup2a HA1
        have hmlb := hmla.kept (Only.of_below (S := fun j => wr.heap.size ≤ j) B5a.out) (fun j q q' => by omega)
        have rowE := Row.none T (heap_alloc_new w5a (.cells #[] 34))
        have mlE := hmlb.kept ((Only.refl w5a (fun _ => False)).alloc (.cells #[] 34)) (fun _ _ q => q)
        have itsE : Its sic 15 34 (w5a.alloc (.cells #[] 34)) (.slice (some ⟨g, 0, none⟩) 2 cap) (some g) 2 T := Or.inr ⟨g, cap, rfl, rfl, mlE.row.less (by omega)⟩
        have hcap2 : 2 ≤ cap := by have := mlE.row.cap_.1; omega
        have hmx2 : 0 + 2 ≤ maxLen := by decide
        have hmx3 : 2 + 1 ≤ maxLen := by decide
        go_upto_region 16 with (first
          | (with_reducible refine wpList_upto rfl (.tmp 60) (.const (.int .i64 2)) 22 rfl 34 iS Try.underlying22 hi1 (some ⟨g, 0, none⟩) (i + 2) cap 2 .i64 2 rfl rfl rfl hcap2 (fun _ _ => trivial) ?_; intro A1 HA1; obtain rfl : A1 = some ⟨g, 0, none⟩ := HA1.out.elim id (fun q => absurd q.1 (by decide)))
          | (at_builtin; refine wpList_item_appN encS rfl (.tmp 59) (.tmp 61) 22 rfl iS _ 136 Try.underlying22 hi1 hi2 hi3 hi4 rfl w5a.heap.size 0 0 T rfl rowE _ (some g) 2 T rfl itsE hmx2 (by decide) ?_; intro g1b cap1b w3b row3b hon3b hg3b; have rowAb : Row sic 15 34 w3b g1b 2 cap1b T := row3b.ext (fun j hj => rfl); have oAb := ((Only.refl w3b (fun _ => False)).alloc (.cells #[.bool true, .int .i64 1, .int .i64 0, .int .i64 1] 38)).alloc (.cells #[.int .i64 0, .int .i64 0, .int .i64 0, .int .i64 0, .int .i64 0, .int .i64 0, .int .i64 0, .int .i64 0, .int .i64 0, .int .i64 0, .int .i64 0, .int .i64 0, .int .i64 0, .int .i64 0, .slice (some ⟨w3b.heap.size, 0, none⟩) 1 1] 34); have rowBb := rowAb.kept oAb (fun q => q); have itsBb : Its sic 15 34 ((w3b.alloc (.cells #[.bool true, .int .i64 1, .int .i64 0, .int .i64 1] 38)).alloc (.cells #[.int .i64 0, .int .i64 0, .int .i64 0, .int .i64 0, .int .i64 0, .int .i64 0, .int .i64 0, .int .i64 0, .int .i64 0, .int .i64 0, .int .i64 0, .int .i64 0, .int .i64 0, .int .i64 0, .slice (some ⟨w3b.heap.size, 0, none⟩) 1 1] 34)) (.slice (some ⟨g1b, 0, none⟩) 2 cap1b) (some g1b) 2 T := Or.inr ⟨g1b, cap1b, rfl, rfl, rowBb⟩; have hcrb := ((Only.refl _ (fun _ => False)).alloc (.cells #[.int .i64 0, .int .i64 0, .int .i64 0, .int .i64 0, .int .i64 0, .int .i64 0, .int .i64 0, .int .i64 0, .int .i64 0, .int .i64 0, .int .i64 0, .int .i64 0, .int .i64 0, .int .i64 0, .slice (some ⟨w3b.heap.size, 0, none⟩) 1 1] 34)).blk (fun q => q) (heap_alloc_new w3b (.cells #[.bool true, .int .i64 1, .int .i64 0, .int .i64 1] 38)); have hrgb : ((w3b.alloc (.cells #[.bool true, .int .i64 1, .int .i64 0, .int .i64 1] 38)).alloc (.cells #[.int .i64 0, .int .i64 0, .int .i64 0, .int .i64 0, .int .i64 0, .int .i64 0, .int .i64 0, .int .i64 0, .int .i64 0, .int .i64 0, .int .i64 0, .int .i64 0, .int .i64 0, .int .i64 0, .slice (some ⟨w3b.heap.size, 0, none⟩) 1 1] 34)).rangeAt (w3b.heap.size + 1) 0 (sic (ev0, an0', some w3b.heap.size, 1)) := rng3 w3b (.cells #[.bool true, .int .i64 1, .int .i64 0, .int .i64 1] 38) 34)
          | (at_builtin; refine wpList_item_app encS rfl (.tmp 62) (.tmp 66) 22 rfl iS _ 136 Try.underlying22 hi1 hi2 hi3 hi4 rfl _ (some g1b) 2 T rfl itsBb (ev0, an0', some w3b.heap.size, 1) (w3b.heap.size + 1) rfl hrgb hmx3 (by decide) ?_; intro g2b cap2b w5b row5b hon5b hgg5b))
        have hon6b := hon5b (fun j => j = g1b) (fun g' q => by cases q; rfl)
        have hb3b : Below w5a.heap.size w5a w3b := ((Below.refl _ _).alloc (Nat.le_refl _) _).trans (hon3b.below (fun j q => by rw [q]; exact Nat.le_refl _) (by rw [World.size_alloc]; omega))
        have hg1b : w5a.heap.size ≤ g1b := by
          rcases hg3b with q | q
          · omega
          · rw [World.size_alloc] at q; omega
        have hb5b : Below w5a.heap.size w5a w5b := hb3b.trans (((oAb.mono (fun j q => q.elim) : Only w3b _ (fun j => j = g1b)).tr hon6b).below (fun j q => by rw [q]; exact hg1b) hb3b.size)
        have hltb := rowAb.lt
        have hcr5b := hon6b.blk (fun q => by omega) hcrb
        have hup0b : upd T 2 (ev0, an0', some w3b.heap.size, 1) 0 = (evF m, an0', none, 0) := by rw [upd_ne _ _ (by decide)]; exact hmlb.t0
        have hup1b : upd T 2 (ev0, an0', some w3b.heap.size, 1) 1 = (evH z, an0', none, 0) := by rw [upd_ne _ _ (by decide)]; exact hmlb.t1
        have hup2b : upd T 2 (ev0, an0', some w3b.heap.size, 1) 2 = (ev0, an0', some w3b.heap.size, 1) := upd_same _ _ _
        have R5b := Lib.hid row5b
        have C5b := Lib.hid hcr5b
        have U0b := Lib.hid hup0b
        have U1b := Lib.hid hup1b
        have U2b := Lib.hid hup2b
        have B5b := Lib.hid hb5b
        clear rowE mlE itsE hcap2 hmx2 hmx3 row3b hon3b hg3b rowAb oAb rowBb itsBb hcrb hrgb row5b hon5b hgg5b hon6b hb3b hg1b hb5b hltb hcr5b hup0b hup1b hup2b HA1
        have hmlc := hmlb.kept (Only.of_below (S := fun j => w5a.heap.size ≤ j) B5b.out) (fun j q q' => by omega)
        have S1 := hmlc.sl (by omega)
        have S3 := sl3 (c := (true, 1, 0, 1)) R5b.out U0b.out U1b.out U2b.out C5b.out ⟨(by decide : (Lit.int .i64 1).wf = true), (by decide : (Lit.int .i64 0).wf = true), (by decide : (Lit.int .i64 1).wf = true)⟩
        have S2a := sl3 (c := (true, 1, 1, 0)) R5a.out U0a.out U1a.out U2a.out C5a.out ⟨(by decide : (Lit.int .i64 1).wf = true), (by decide : (Lit.int .i64 1).wf = true), (by decide : (Lit.int .i64 0).wf = true)⟩
        have S2 := (S2a.keep (w' := w5b) (fun j hj => B5b.out.block j hj)).up B5b.out.size
        have hbz := hbl.trans ((B5a.out.mono hbl.size).trans (B5b.out.mono (Nat.le_trans hbl.size B5a.out.size)))
        have F1 := Lib.hid (c_First w5b _ (i + 2) cap _ (by simp [ls]) S1 (tot_ls m z i (by omega)))
        have HS2 := Lib.hid S2
        have HS3 := Lib.hid S3
        have hma : (1 : Int) ≤ (m : Int) ∧ (m : Int) ≤ 2147483647 ∧ (0 : Int) ≤ (z : Int) ∧ (z : Int) ≤ 2147483647 := by omega
        have HFO := Lib.hid (fst_other m z (by omega) hma.2.1 hma.2.2.1 hma.2.2.2)
        have HFA := Lib.hid (fst_far m z (by omega) hma.2.1 hma.2.2.1 hma.2.2.2)
        clear S1 S2 S2a S3 hmla hmlb hmlc hml hbl hma R5a C5a U0a U1a U2a B5a R5b C5b U0b U1b U2b B5b
        go_wp2_with fail
        refine F1.out.mono ?_
        rintro e7 w7 ⟨rfl, b7⟩
        rw [HR.out, HF.out]
        have HS2' := Lib.hid ((HS2.out.keep (w' := w7) (fun j hj => b7.block j hj)).up b7.size)
        have HS3' := Lib.hid ((HS3.out.keep (w' := w7) (fun j hj => b7.block j hj)).up b7.size)
        have F2 := Lib.hid (c_First w7 _ 3 cap2a _ rfl HS2'.out (show (8 : Nat) < 1048000 by decide))
        have bz7 := hbz.trans (b7.mono hbz.size)
        clear b7 HS2 HS3 F1 hbz
        go_wp2_with fail
        refine F2.out.mono ?_
        rintro e8 w8 ⟨rfl, b8⟩
        rw [HFO.out]
        have HS3'' := Lib.hid ((HS3'.out.keep (w' := w8) (fun j hj => b8.block j hj)).up b8.size)
        have F3 := Lib.hid (c_First w8 _ 3 cap2b _ rfl HS3''.out (show (8 : Nat) < 1048000 by decide))
        have bz8 := bz7.trans (b8.mono bz7.size)
        clear b8 HS2' HS3' F2 bz7
        go_wp2_with fail
        refine F3.out.mono ?_
        rintro e9 w9 ⟨rfl, b9⟩
        rw [HFA.out]
        have bz9 := bz8.trans (b9.mono bz8.size)
        clear b9 HS3'' F3 bz8
        go_wp2
        go_ret
        exact ⟨rfl, bz9⟩
end Go.Proofs.Ytgpookphacdgoaa.W.U
