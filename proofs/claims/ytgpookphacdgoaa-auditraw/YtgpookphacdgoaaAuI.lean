/- Package audit: commands, one by one. -/
import Derived.Test.YtgpookphacdgoaaAuH
import Derived.Test.YtgpookphacdgoaaActs
namespace Go.Proofs.Ytgpookphacdgoaa.W.U
open Go.RowKit Go.Maps Go.ChangeMaps Go.MapKept Go.Proofs.Ytgpookphacdgoaa.W

/-- Commands that came in. -/
def CL (w : World) (B : Nat) (A : Option Addr) (cs : List Cmd) : Prop :=
  ∀ (k : Nat) (c : Cmd), cs[k]? = some c → ∃ ad, A = some ad ∧ ad.block < B ∧ w.cell? (ad.add (k * 4)) = some (.bool c.1) ∧ w.cell? (ad.add (k * 4 + 1)) = some (.int .i64 c.2.1) ∧ w.cell? (ad.add (k * 4 + 2)) = some (.int .i64 c.2.2.1) ∧ w.cell? (ad.add (k * 4 + 3)) = some (.int .i64 c.2.2.2)
theorem cell_same {w w' : World} {ad : Addr} {B k : Nat} {v : Value} (hb : ad.block < B) (h : ∀ j, j < B → w'.heap[j]? = w.heap[j]?) (hc : w.cell? (ad.add k) = some v) : w'.cell? (ad.add k) = some v := by
  rw [World.cell?_of_block (h (ad.add k).block (by rw [blk_add]; exact hb))]; exact hc
theorem CL.keep {w w' : World} {B : Nat} {A : Option Addr} {cs : List Cmd} (H : CL w B A cs) (h : ∀ j, j < B → w'.heap[j]? = w.heap[j]?) : CL w' B A cs := fun k c hk => by
  obtain ⟨ad, h1, h2, h3, h4, h5, h6⟩ := H k c hk
  exact ⟨ad, h1, h2, cell_same h2 h h3, cell_same h2 h h4, cell_same h2 h h5, cell_same h2 h h6⟩
/-- What lies below B is nobody's. -/
def Base (own : Nat → Option Tag) (w : World) (B : Nat) : Prop := B ≤ w.heap.size ∧ ∀ j, own j ≠ none → B ≤ j
theorem Base.next {w w' : World} {own own' : Nat → Option Tag} {B : Nat} (b : Base own w B) (n : Nx w own w' own') : Base own' w' B :=
  ⟨Nat.le_trans b.1 n.only.size, fun j q => (n.new j q).elim (b.2 j) (fun q => Nat.le_trans b.1 q)⟩
theorem Base.same {w w' : World} {own own' : Nat → Option Tag} {B : Nat} (b : Base own w B) (n : Nx w own w' own') : ∀ j, j < B → w'.heap[j]? = w.heap[j]? :=
  fun j hj => n.only.block j (Nat.lt_of_lt_of_le hj b.1) (fun q => by have := b.2 j q; omega)


set_option maxRecDepth 100000 in
set_option maxHeartbeats 1600000 in
theorem c_boot {w : World} {own : Nat → Option Tag} {y : Lay} {s : Vs} {W : Wd} {N : Nat} (h : Cor w own y s) (S : Sim s W N) (hN : N < 1048570) {i f x : Int} (hc : cwf (true, i, f, x)) : Calls Try.prog 24 #[ptr y.v, .agg #[.bool true, .int .i64 i, .int .i64 f, .int .i64 x]] w (Res w own y.v (N + 2) (cmd W (true, i, f, x))) := by
  obtain ⟨wfi, wff, wfx⟩ := hc
  cases hf : s.fu.a f with
  | none =>
    have hm : W.me f = none := by rw [← S.fu f, hf]; rfl
    have : cmd W (true, i, f, x) = none := by unfold cmd; rw [if_pos rfl]; dsimp only; rw [hm]
    rw [this]; exact c_boot0 h S (by omega) wff hf
  | some g =>
    have hm := S.me hf
    have hl := S.last
    by_cases hi : i = s.last + 1
    · by_cases hfit : usd W.me W.L x + g.mem ≤ W.sz x
      · exact c_boot3 h S hN wff wfx hf hi hfit
      · have : cmd W (true, i, f, x) = none := by unfold cmd; rw [if_pos rfl]; dsimp only; rw [hm]; dsimp only; rw [if_neg (fun q => hfit q.2)]
        rw [this]; exact c_boot2 h S (by omega) wff wfx hf hi (by omega)
    · have : cmd W (true, i, f, x) = none := by unfold cmd; rw [if_pos rfl]; dsimp only; rw [hm]; dsimp only; rw [if_neg (fun q => hi (by omega))]
      rw [this]; exact c_boot1 h S (by omega) wff hf hi

set_option maxRecDepth 100000 in
set_option maxHeartbeats 1600000 in
theorem c_kill {w : World} {own : Nat → Option Tag} {y : Lay} {s : Vs} {W : Wd} {N : Nat} (h : Cor w own y s) (S : Sim s W N) (hN : N < 1048570) {i f x : Int} (hc : cwf (false, i, f, x)) : Calls Try.prog 25 #[ptr y.v, .agg #[.bool false, .int .i64 i, .int .i64 f, .int .i64 x]] w (Res w own y.v (N + 2) (cmd W (false, i, f, x))) := by
  obtain ⟨wfi, wff, wfx⟩ := hc
  have hcm : cmd W (false, i, f, x) = (match fnd W.L i with
    | some b => if b.busy = false ∧ b.fn = f ∧ b.ho = x then some { W with L := drp W.L i } else none
    | none => none) := by unfold cmd; rw [if_neg (by simp)]; rfl
  rw [hcm]
  cases hf : fnd W.L i with
  | none => exact c_kill0 h S (by omega) wfi (S.mxN hf)
  | some b =>
    dsimp only
    cases hu : b.busy with
    | true => rw [if_neg (by simp)]; exact c_kill1 h S (by omega) wfi hf hu
    | false =>
      by_cases e1 : b.fn = f
      · by_cases e2 : b.ho = x
        · rw [if_pos ⟨rfl, e1, e2⟩]; exact (c_kill4 h S (by omega) wfi hf hu e1 e2).mono fun _ _ k => k.up (by omega)
        · rw [if_neg (fun q => e2 q.2.2)]; exact c_kill3 h S (by omega) wfi hf hu e1 e2
      · rw [if_neg (fun q => e1 q.2.1)]; exact c_kill2 h S (by omega) wfi hf hu e1

set_option maxRecDepth 100000 in
set_option maxHeartbeats 1600000 in
theorem c_obey {w : World} {own : Nat → Option Tag} {y : Lay} {s : Vs} {W : Wd} {N : Nat} (h : Cor w own y s) (S : Sim s W N) {A : Option Addr} {len cap B : Nat} {cs : List Cmd} (hcs : cs.length = len) (hcl : CL w B A cs) (hcw : ∀ c ∈ cs, cwf c) (hB : Base own w B) (hN : N + 2 * len < 1048570) : Calls Try.prog 13 #[ptr y.v, .slice A len cap] w (Res w own y.v (N + 2 * len) (cmds W cs)) := by
  have N0 := Nx.refl w own
  have HCS := Lib.hid hcs
  have HCL := Lib.hid hcl
  have HCW := Lib.hid hcw
  have HB := Lib.hid hB
  have hlm : len ≤ 1048570 := by omega
  clear hcs hcl hcw hB
  go_enter Try.func13, Try.ntmps13
  go_wp2_with fail
  go_loopg [9] len (fun gk v9 wr => ∃ (k : Nat) (W1 : Wd) (y1 : Lay) (s1 : Vs) (o1 : Nat → Option Tag), v9 = .int .i64 (k : Int) ∧ k + gk = len ∧ Hid (Cor wr o1 y1 s1) ∧ Hid (Sim s1 W1 (N + 2 * k)) ∧ Hid (Nx w own wr o1) ∧ Hid (y1.v = y.v) ∧ Hid (cmds W cs = cmds W1 (cs.drop k)))
  case atStart => exact ⟨0, W, y, s, own, rfl, by omega, Lib.hid h, Lib.hid S, Lib.hid N0, rfl, rfl⟩
  case round =>
    clear h S N0
    obtain ⟨k, W1, y1, s1, o1, rfl, hkl, H1, HS1, NN1, HV1, HW1⟩ := hrel
    have HKL := Lib.hid hkl
    by_cases hk : k < len
    · have hki : (k : Int) < (len : Int) := by omega
      have hkc : k < cs.length := by rw [HCS.out]; exact hk
      obtain ⟨⟨bt, i, f, x⟩, hc⟩ : ∃ c, cs[k]? = some c := ⟨_, List.getElem?_eq_getElem hkc⟩
      have hcw := HCW.out _ (List.mem_of_getElem? hc)
      have hdr : cs.drop k = (bt, i, f, x) :: cs.drop (k + 1) := by
        rw [List.drop_eq_getElem_cons hkc]
        rw [List.getElem?_eq_getElem hkc] at hc
        injection hc with hc; rw [hc]
      have HW : Hid (cmds W cs = cmds W1 ((bt, i, f, x) :: cs.drop (k + 1))) := Lib.hid (by rw [HW1.out, hdr])
      obtain ⟨ad, hA, hadb, y0, yy1, yy2, yy3⟩ := HCL.out.keep (HB.out.same NN1.out) k _ hc
      dsimp only at y0 yy1 yy2 yy3
      have x1 := cell_in (c := 0) yy1
      have x2 := cell_in (c := 1) yy2
      have x3 := cell_in (c := 2) yy3
      rw [Nat.zero_add] at x1
      rw [show (1 : Nat) + 1 = 2 from rfl] at x2
      rw [show (2 : Nat) + 1 = 3 from rfl] at x3
      subst hA
      have h1 := H1.out.alloc (.cells #[.bool bt, .int .i64 i, .int .i64 f, .int .i64 x] 38)
      have N1 := NN1.out.alloc (.cells #[.bool bt, .int .i64 i, .int .i64 f, .int .i64 x] 38)
      have S1 := HS1.out
      have HBX := Lib.hid (heap_alloc_new wr (.cells #[.bool bt, .int .i64 i, .int .i64 f, .int .i64 x] 38))
      have HFR := Lib.hid (H1.out.fresh (Nat.le_refl wr.heap.size))
      clear yy1 yy2 yy3 hdr hkl hc hadb H1 NN1 HS1 HW1
      cases bt with
      | true =>
        have hcm := c_boot h1 S1 (by omega) hcw
        rw [HV1.out] at hcm
        have HCM := Lib.hid hcm
        clear hcm
        go_wp2_with fail
        refine HCM.out.mono ?_
        rintro e w3 ⟨o3, n3, ⟨hr, rfl⟩ | ⟨W3, y3, s3, hr, rfl, hv3, h3, S3⟩⟩
        · go_wp2_with fail
          go_ret
          exact Res.no (by rw [HW.out, cmds]; rw [hr]) rfl (N1.trans n3)
        · have N3 := N1.trans n3
          have z0 := cellB (n3.blk HFR.out HBX.out) 0 _ rfl
          have hW3 : cmds W cs = cmds W3 (cs.drop (k + 1)) := by rw [HW.out, cmds]; rw [hr]
          have HR := Lib.hid hr
          have hS3 : Sim s3 W3 (N + 2 * (k + 1)) := S3
          have H3 := Lib.hid h3
          have NN3 := Lib.hid N3
          have HS3 := Lib.hid hS3
          have HV3 := Lib.hid hv3
          have HW3 := Lib.hid hW3
          clear hr h3 n3 N3 S3 hS3 hv3 hW3 h1 N1 S1
          go_wp2_with fail
          go_roundg (len - k - 1)
          case measure => have := HKL.out; omega
          case rel => exact ⟨k + 1, W3, y3, s3, o3, by go_num, by have := HKL.out; omega, H3, HS3, NN3, HV3, HW3⟩
      | false =>
        have hcm := c_kill h1 S1 (by omega) hcw
        rw [HV1.out] at hcm
        have HCM := Lib.hid hcm
        clear hcm
        go_wp2_with fail
        refine HCM.out.mono ?_
        rintro e w3 ⟨o3, n3, ⟨hr, rfl⟩ | ⟨W3, y3, s3, hr, rfl, hv3, h3, S3⟩⟩
        · go_wp2_with fail
          go_ret
          exact Res.no (by rw [HW.out, cmds]; rw [hr]) rfl (N1.trans n3)
        · have N3 := N1.trans n3
          have z0 := cellB (n3.blk HFR.out HBX.out) 0 _ rfl
          have hW3 : cmds W cs = cmds W3 (cs.drop (k + 1)) := by rw [HW.out, cmds]; rw [hr]
          have HR := Lib.hid hr
          have hS3 : Sim s3 W3 (N + 2 * (k + 1)) := S3
          have H3 := Lib.hid h3
          have NN3 := Lib.hid N3
          have HS3 := Lib.hid hS3
          have HV3 := Lib.hid hv3
          have HW3 := Lib.hid hW3
          clear hr h3 n3 N3 S3 hS3 hv3 hW3 h1 N1 S1
          go_wp2_with fail
          go_roundg (len - k - 1)
          case measure => have := HKL.out; omega
          case rel => exact ⟨k + 1, W3, y3, s3, o3, by go_num, by have := HKL.out; omega, H3, HS3, NN3, HV3, HW3⟩
    · obtain rfl : k = len := by omega
      have hd : decide ((k : Int) < (k : Int)) = false := by simp
      have hdr : cs.drop k = [] := List.drop_eq_nil_of_le (by rw [HCS.out]; exact Nat.le_refl _)
      have hfin : cmds W cs = some W1 := by rw [HW1.out, hdr]; rfl
      have HF := Lib.hid hfin
      clear hdr hfin hkl hk
      go_wp2_with fail
      go_ret
      exact Res.yes HF.out rfl HV1.out NN1.out H1.out HS1.out

end Go.Proofs.Ytgpookphacdgoaa.W.U
