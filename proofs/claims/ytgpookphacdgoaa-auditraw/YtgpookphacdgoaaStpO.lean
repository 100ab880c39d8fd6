/- A slice of steps that came in (an event, an answer, a slice of commands): whatever the program. -/
import Derived.Test.YtgpookphacdgoaaActs
namespace Go.Proofs.Ytgpookphacdgoaa.W
open Go.RowKit

theorem cells_at {w : World} {base n : Nat} {a : Addr} {cs : List Value} (h : w.cells? base a n = some cs) {j : Nat} (hj : j < n) {v : Value} (hv : cs[j]? = some v) : w.cell? (a.add j) = some v := by
  obtain ⟨_, _, k2⟩ := World.cells?_some h
  rw [← hv]; exact k2 j hj
theorem take_one {cs : List Value} {i : Nat} {v : Value} (h : (cs.drop i).take 1 = [v]) : cs[i]? = some v := by
  have := congrArg (fun l => l[0]?) h
  simpa [List.getElem?_take, List.getElem?_drop] using this
theorem field_in {cs : List Value} {o n i : Nat} {v : Value} (h : (((cs.drop o).take n).drop i).take 1 = [v]) (hi : i < n) : cs[o + i]? = some v := by
  have := take_one h
  rw [List.getElem?_take_of_lt hi, List.getElem?_drop] at this
  exact this
abbrev CmdO := Bool × Int × Int × Int
/-- A command of such a slice. -/
def CmO (w : World) (A : Option Addr) (k : Nat) (c : CmdO) : Prop :=
  ∃ ad, A = some ad ∧ ad.block < w.heap.size ∧ w.cell? (ad.add (k * 4)) = some (.bool c.1) ∧ w.cell? (ad.add (k * 4 + 1)) = some (.int .i64 c.2.1) ∧ w.cell? (ad.add (k * 4 + 2)) = some (.int .i64 c.2.2.1) ∧ w.cell? (ad.add (k * 4 + 3)) = some (.int .i64 c.2.2.2) ∧ (Lit.int .i64 c.2.1).wf = true ∧ (Lit.int .i64 c.2.2.1).wf = true ∧ (Lit.int .i64 c.2.2.2).wf = true
theorem open_cmds {H : Type} {enc : TypeId × Value → H} {P : Program} {w : World} {base : Nat} {spare : Nat → Bool} {held : Bool} {t e : TypeId} {fs : Array Field} {fuel : Nat} {cs : List Value} {x : DataW H × List MemPlace}
    (ht : P.underlying t = some (.slice e)) (he : P.underlying e = some (.struct fs)) (hN : P.cellsOf e = 4) (hfs : fs.size = 4)
    (h0 : ∀ f, fs[0]? = some f → P.underlying f.type = some .bool ∧ f.offset = 0 ∧ P.cellsOf f.type = 1) (hf : ∀ (i : Nat) (f : Field), 0 < i → fs[i]? = some f → P.underlying f.type = some (.int .i64) ∧ f.offset = i ∧ P.cellsOf f.type = 1) (h : DataW.trod enc P w base spare held fuel t cs = some x) :
    ∃ (A : Option Addr) (len cap : Nat) (C : Nat → CmdO), cs = [.slice A len cap] ∧ len ≤ maxLen ∧ ∀ k, k < len → CmO w A k (C k) := by
  rcases Go.Deep.open_slice ht h with ⟨rfl, _⟩ | ⟨a, len, cap, m, n, D, Pl, h1, _, h3, h4, h5, _, h7⟩
  · exact ⟨none, 0, 0, fun _ => (false, 0, 0, 0), rfl, Nat.zero_le _, fun k hk => by omega⟩
  have hml : len ≤ m := by rw [h5]; split <;> omega
  have key : ∀ k, k < len → ∃ c : CmdO, CmO w (some a) k c := by
    intro k hk
    obtain ⟨cs', g1, g2⟩ := h7 k (by omega)
    obtain ⟨xs, n', _, _, g3, g4, g5⟩ := DataW.trod_struct he g2
    have getf : ∀ i, i < 4 → ∃ f, fs[i]? = some f := fun i hi => ⟨_, Array.getElem?_eq_getElem (by omega)⟩
    obtain ⟨f0, e0⟩ := getf 0 (by omega)
    obtain ⟨u1, u2, u3⟩ := h0 f0 e0
    have g6 := g5 _ _ e0
    rw [List.getElem?_eq_getElem (by omega)] at g6
    obtain ⟨b, g7, _⟩ := DataW.trod_bool u1 g6
    rw [u2, u3] at g7
    have cb := cells_at g1 (j := 0) (by rw [hN]; omega) (take_one g7)
    have num : ∀ i, 0 < i → i < 4 → ∃ z, w.cell? ((a.add (k * P.cellsOf e)).add i) = some (.int .i64 z) ∧ (Lit.int .i64 z).wf = true := by
      intro i hi0 hi
      obtain ⟨f, ef⟩ := getf i hi
      obtain ⟨v1, v2, v3⟩ := hf i f hi0 ef
      have g6 := g5 _ _ ef
      rw [List.getElem?_eq_getElem (by omega)] at g6
      obtain ⟨z, g7, _, g8⟩ := DataW.trod_int v1 g6
      rw [v2, v3] at g7
      exact ⟨z, cells_at g1 (by rw [hN]; omega) (take_one g7), g8⟩
    obtain ⟨z1, c1, w1⟩ := num 1 (by omega) (by omega)
    obtain ⟨z2, c2, w2⟩ := num 2 (by omega) (by omega)
    obtain ⟨z3, c3, w3⟩ := num 3 (by omega) (by omega)
    rw [hN, add_two] at cb c1 c2 c3
    refine ⟨(b, z1, z2, z3), a, rfl, ?_, ?_, c1, c2, c3, w1, w2, w3⟩
    · have := cell_lt cb; rwa [blk_add] at this
    · rw [Nat.add_zero] at cb; exact cb
  obtain ⟨C, hC⟩ := Go.Deep.choose_lt key
  exact ⟨some a, len, cap, C, h1, Nat.le_trans h3 h4, hC⟩
/-- A step of such a slice: fourteen numbers, and its commands. -/
def StO (w : World) (ad : Addr) (k : Nat) (s : (Nat → Int) × Option Addr × Nat × Nat × (Nat → CmdO)) : Prop :=
  (∀ j, j < 14 → w.cell? (ad.add (k * 15 + j)) = some (.int .i64 (s.1 j)) ∧ (Lit.int .i64 (s.1 j)).wf = true) ∧ w.cell? (ad.add (k * 15 + 14)) = some (.slice s.2.1 s.2.2.1 s.2.2.2.1) ∧ s.2.2.1 ≤ maxLen ∧ ∀ i, i < s.2.2.1 → CmO w s.2.1 i (s.2.2.2.2 i)
theorem open_steps {H : Type} {enc : TypeId × Value → H} {P : Program} {w : World} {base : Nat} {spare : Nat → Bool} {held : Bool} {t e ec : TypeId} {fs fe fa fc : Array Field} {fuel : Nat} {cs : List Value} {x : DataW H × List MemPlace}
    (ht : P.underlying t = some (.slice e)) (he : P.underlying e = some (.struct fs)) (hN : P.cellsOf e = 15) (hfs : fs.size = 3)
    (h0 : ∀ f, fs[0]? = some f → P.underlying f.type = some (.struct fe) ∧ f.offset = 0 ∧ P.cellsOf f.type = 10) (h1 : ∀ f, fs[1]? = some f → P.underlying f.type = some (.struct fa) ∧ f.offset = 10 ∧ P.cellsOf f.type = 4) (h2 : ∀ f, fs[2]? = some f → P.underlying f.type = some (.slice ec) ∧ f.offset = 14 ∧ P.cellsOf f.type = 1)
    (hfe : fe.size = 10) (he0 : ∀ (i : Nat) (f : Field), fe[i]? = some f → P.underlying f.type = some (.int .i64) ∧ f.offset = i ∧ P.cellsOf f.type = 1)
    (hfa : fa.size = 4) (ha0 : ∀ (i : Nat) (f : Field), fa[i]? = some f → P.underlying f.type = some (.int .i64) ∧ f.offset = i ∧ P.cellsOf f.type = 1)
    (hec : P.underlying ec = some (.struct fc)) (hNc : P.cellsOf ec = 4) (hfc : fc.size = 4)
    (hc0 : ∀ f, fc[0]? = some f → P.underlying f.type = some .bool ∧ f.offset = 0 ∧ P.cellsOf f.type = 1) (hci : ∀ (i : Nat) (f : Field), 0 < i → fc[i]? = some f → P.underlying f.type = some (.int .i64) ∧ f.offset = i ∧ P.cellsOf f.type = 1) (h : DataW.trod enc P w base spare held fuel t cs = some x) :
    cs = [.slice none 0 0] ∨ ∃ (a : Addr) (len cap : Nat) (S : Nat → (Nat → Int) × Option Addr × Nat × Nat × (Nat → CmdO)), cs = [.slice (some a) len cap] ∧ len ≤ cap ∧ cap ≤ maxLen ∧ ∀ k, k < len → StO w a k (S k) := by
  rcases Go.Deep.open_slice ht h with ⟨hn, _⟩ | ⟨a, len, cap, m, n, D, Pl, q1, _, q3, q4, q5, _, q7⟩
  · exact Or.inl hn
  right
  have hml : len ≤ m := by rw [q5]; split <;> omega
  have key : ∀ k, k < len → ∃ s, StO w a k s := by
    intro k hk
    obtain ⟨cs', g1, g2⟩ := q7 k (by omega)
    obtain ⟨xs, n', _, _, g3, g4, g5⟩ := DataW.trod_struct he g2
    have getf : ∀ i, i < 3 → ∃ f, fs[i]? = some f := fun i hi => ⟨_, Array.getElem?_eq_getElem (by omega)⟩
    obtain ⟨f0, e0⟩ := getf 0 (by omega)
    obtain ⟨f1, e1⟩ := getf 1 (by omega)
    obtain ⟨f2, e2⟩ := getf 2 (by omega)
    obtain ⟨u1, u2, u3⟩ := h0 f0 e0
    obtain ⟨v1, v2, v3⟩ := h1 f1 e1
    obtain ⟨w1, w2, w3⟩ := h2 f2 e2
    have g60 := g5 _ _ e0
    have g61 := g5 _ _ e1
    have g62 := g5 _ _ e2
    rw [List.getElem?_eq_getElem (by omega)] at g60 g61 g62
    rw [u2, u3] at g60
    rw [v2, v3] at g61
    rw [w2, w3] at g62
    obtain ⟨ys, n0, _, _, a3, a4, a5⟩ := DataW.trod_struct u1 g60
    obtain ⟨zs, n1, _, _, b3, b4, b5⟩ := DataW.trod_struct v1 g61
    have nume : ∀ i, i < 10 → ∃ z, cs'[i]? = some (.int .i64 z) ∧ (Lit.int .i64 z).wf = true := by
      intro i hi
      obtain ⟨f, ef⟩ : ∃ f, fe[i]? = some f := ⟨_, Array.getElem?_eq_getElem (by omega)⟩
      obtain ⟨o1, o2, o3⟩ := he0 i f ef
      have g6 := a5 _ _ ef
      rw [List.getElem?_eq_getElem (by omega)] at g6
      obtain ⟨z, g7, _, g8⟩ := DataW.trod_int o1 g6
      rw [o2, o3] at g7
      have := field_in g7 hi
      rw [Nat.zero_add] at this
      exact ⟨z, this, g8⟩
    have numa : ∀ i, i < 4 → ∃ z, cs'[10 + i]? = some (.int .i64 z) ∧ (Lit.int .i64 z).wf = true := by
      intro i hi
      obtain ⟨f, ef⟩ : ∃ f, fa[i]? = some f := ⟨_, Array.getElem?_eq_getElem (by omega)⟩
      obtain ⟨o1, o2, o3⟩ := ha0 i f ef
      have g6 := b5 _ _ ef
      rw [List.getElem?_eq_getElem (by omega)] at g6
      obtain ⟨z, g7, _, g8⟩ := DataW.trod_int o1 g6
      rw [o2, o3] at g7
      exact ⟨z, field_in g7 hi, g8⟩
    have nums : ∀ j, j < 14 → ∃ z, cs'[j]? = some (.int .i64 z) ∧ (Lit.int .i64 z).wf = true := by
      intro j hj
      by_cases q : j < 10
      · exact nume j q
      · obtain ⟨z, h1, h2⟩ := numa (j - 10) (by omega)
        rw [show 10 + (j - 10) = j by omega] at h1
        exact ⟨z, h1, h2⟩
    obtain ⟨Z, hZ⟩ := Go.Deep.choose_lt nums
    obtain ⟨A, sl, sc, C, r1, r2, r3⟩ := open_cmds w1 hec hNc hfc hc0 hci g62
    refine ⟨(Z, A, sl, sc, C), fun j hj => ?_, ?_, r2, r3⟩
    · have := cells_at g1 (by rw [hN]; omega) (hZ j hj).1
      rw [hN, add_two] at this
      exact ⟨this, (hZ j hj).2⟩
    · have := cells_at g1 (j := 14) (by rw [hN]; omega) (take_one r1)
      rw [hN, add_two] at this
      exact this
  have inh : Inhabited ((Nat → Int) × Option Addr × Nat × Nat × (Nat → CmdO)) := ⟨(fun _ => 0, none, 0, 0, fun _ => (false, 0, 0, 0))⟩
  obtain ⟨S, hS⟩ := Go.Deep.choose_lt key
  exact ⟨a, len, cap, S, q1, q3, q4, hS⟩
/-- The same, the types' makes given. -/
theorem open_steps' {H : Type} {enc : TypeId × Value → H} {P : Program} {w : World} {base : Nat} {spare : Nat → Bool} {held : Bool} {te ta tc t e ec : TypeId} {fs fe fa fc : Array Field} {fuel : Nat} {cs : List Value} {x : DataW H × List MemPlace}
    (ue : P.underlying te = some (.struct fe)) (ua : P.underlying ta = some (.struct fa)) (uc : P.underlying tc = some (.slice ec)) (hec : P.underlying ec = some (.struct fc)) (ht : P.underlying t = some (.slice e)) (he : P.underlying e = some (.struct fs)) (hN : P.cellsOf e = 15) (hfs : fs.size = 3)
    (h0 : ∀ f, fs[0]? = some f → f.type = te ∧ f.offset = 0 ∧ P.cellsOf f.type = 10) (h1 : ∀ f, fs[1]? = some f → f.type = ta ∧ f.offset = 10 ∧ P.cellsOf f.type = 4) (h2 : ∀ f, fs[2]? = some f → f.type = tc ∧ f.offset = 14 ∧ P.cellsOf f.type = 1)
    (hfe : fe.size = 10) (he0 : ∀ (i : Nat) (f : Field), fe[i]? = some f → P.underlying f.type = some (.int .i64) ∧ f.offset = i ∧ P.cellsOf f.type = 1)
    (hfa : fa.size = 4) (ha0 : ∀ (i : Nat) (f : Field), fa[i]? = some f → P.underlying f.type = some (.int .i64) ∧ f.offset = i ∧ P.cellsOf f.type = 1)
    (hNc : P.cellsOf ec = 4) (hfc : fc.size = 4)
    (hc0 : ∀ f, fc[0]? = some f → P.underlying f.type = some .bool ∧ f.offset = 0 ∧ P.cellsOf f.type = 1) (hci : ∀ (i : Nat) (f : Field), 0 < i → fc[i]? = some f → P.underlying f.type = some (.int .i64) ∧ f.offset = i ∧ P.cellsOf f.type = 1) (h : DataW.trod enc P w base spare held fuel t cs = some x) :
    cs = [.slice none 0 0] ∨ ∃ (a : Addr) (len cap : Nat) (S : Nat → (Nat → Int) × Option Addr × Nat × Nat × (Nat → CmdO)), cs = [.slice (some a) len cap] ∧ len ≤ cap ∧ cap ≤ maxLen ∧ ∀ k, k < len → StO w a k (S k) :=
  open_steps ht he hN hfs (fun f hf => by obtain ⟨k1, k2, k3⟩ := h0 f hf; exact ⟨by rw [k1]; exact ue, k2, k3⟩) (fun f hf => by obtain ⟨k1, k2, k3⟩ := h1 f hf; exact ⟨by rw [k1]; exact ua, k2, k3⟩) (fun f hf => by obtain ⟨k1, k2, k3⟩ := h2 f hf; exact ⟨by rw [k1]; exact uc, k2, k3⟩) hfe he0 hfa ha0 hec hNc hfc hc0 hci h
end Go.Proofs.Ytgpookphacdgoaa.W
