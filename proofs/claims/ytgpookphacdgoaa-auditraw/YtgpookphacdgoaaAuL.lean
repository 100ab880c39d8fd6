/- Package audit's law: steps in a slice that was made; the document's example. -/
import Derived.Test.YtgpookphacdgoaaAuK
namespace Go.Proofs.Ytgpookphacdgoaa.W.U
open Go.RowKit Go.Maps Go.ChangeMaps Go.MapKept Go.Proofs.Ytgpookphacdgoaa.W

/-- A step, its commands by their block and how many they are. -/
abbrev Sx := Ev × An × Option Nat × Nat
def sic (x : Sx) : List Value := scel (x.1, x.2.1, []) ++ [.slice (x.2.2.1.map (fun b => ⟨b, 0, none⟩)) x.2.2.2 x.2.2.2]
theorem encS : Enc sic 15 := ⟨fun _ => rfl, by decide, fun x u hu => by
  simp [sic] at hu; rcases hu with rfl | rfl | rfl | rfl | rfl | rfl | rfl | rfl | rfl | rfl | rfl | rfl | rfl | rfl | rfl <;> rfl⟩
def steps (T : Nat → Sx) (Cs : Nat → List Cmd) (n : Nat) : List Stp := (List.range n).map (fun k => ((T k).1, (T k).2.1, Cs k))
theorem steps_at (T : Nat → Sx) (Cs : Nat → List Cmd) {n k : Nat} (h : k < n) : (steps T Cs n)[k]? = some ((T k).1, (T k).2.1, Cs k) := by
  unfold steps; rw [List.getElem?_map, List.getElem?_range h]; rfl
theorem steps_len (T : Nat → Sx) (Cs : Nat → List Cmd) (n : Nat) : (steps T Cs n).length = n := by simp [steps]
theorem CL.nil (w : World) (B : Nat) (A : Option Addr) : CL w B A [] := fun k c h => by simp at h
theorem CL.one {w : World} {B q : Nat} {c : Cmd} {t : TypeId} (h : w.heap[q]? = some (.cells #[.bool c.1, .int .i64 c.2.1, .int .i64 c.2.2.1, .int .i64 c.2.2.2] t (0, 0))) (hq : q < B) : CL w B (some ⟨q, 0, none⟩) [c] := fun k d hk => by
  obtain rfl : k = 0 := by
    cases k with
    | zero => rfl
    | succ k => simp at hk
  simp at hk; subst hk
  refine ⟨_, rfl, hq, ?_, ?_, ?_, ?_⟩
  · exact cellB h 0 _ rfl
  · exact cellB h 1 _ rfl
  · exact cellB h 2 _ rfl
  · exact cellB h 3 _ rfl
theorem SL_of {w : World} {B g n cap : Nat} {T : Nat → Sx} {Cs : Nat → List Cmd} {t : TypeId} (h : Row sic 15 t w g n cap T) (hg : g < B) (hc : ∀ k, k < n → (Cs k).length = (T k).2.2.2 ∧ CL w B ((T k).2.2.1.map (fun b => ⟨b, 0, none⟩)) (Cs k) ∧ ∀ c ∈ Cs k, cwf c) : SL w B (some ⟨g, 0, none⟩) (steps T Cs n) := by
  intro k s hk
  have hkn : k < n := by have := (List.getElem?_eq_some_iff.1 hk).1; rwa [steps_len] at this
  rw [steps_at T Cs hkn] at hk
  cases hk
  obtain ⟨h1, h2, h3⟩ := hc k hkn
  refine ⟨_, (T k).2.2.1.map (fun b => ⟨b, 0, none⟩), (T k).2.2.2, (T k).2.2.2, rfl, hg, fun j v hv => ?_, ?_, h1, h2, h3⟩
  · rw [Addr.add_mid, Nat.zero_add]
    have hj : j < 14 := by have := (List.getElem?_eq_some_iff.1 hv).1; simpa using this
    refine h.cell hkn (c := j) ?_ rfl
    unfold sic
    rw [List.getElem?_append_left (by simpa using hj)]
    exact hv
  · rw [Addr.add_mid, Nat.zero_add]
    exact h.cell hkn (c := 14) (u := .slice ((T k).2.2.1.map (fun b => ⟨b, 0, none⟩)) (T k).2.2.2 (T k).2.2.2) rfl rfl
theorem Row.lit {w : World} {g n : Nat} {t : TypeId} {cs : List Value} (T : Nat → Sx) (h : w.heap[g]? = some (.cells cs.toArray t (0, 0))) (hc : cs = flat sic T n) (hn : n ≤ maxLen) : Row sic 15 t w g n n T :=
  ⟨cs, h, by rw [hc, flat_len encS], Nat.le_refl _, hn, fun j hj c u hu => by
    have hcl : c < 15 := by have := (List.getElem?_eq_some_iff.1 hu).1; rwa [encS.len] at this
    rw [hc, flat_at encS T n j c hj hcl]; exact hu⟩

def ev9 : Ev := ⟨9, 3, 0, 0, 0, 0, 0, 0, 0, 0⟩
def anR : An := ⟨1, 0, 0, 2⟩
theorem right9 : right ev9 := ⟨by decide, by decide, by intro x hx; simp [nums, ev9] at hx; subst hx; decide, rfl⟩
theorem okR : okA anR := Or.inr (Or.inl ⟨rfl, by decide, by decide, rfl, rfl⟩)
theorem ok0 : okA ⟨0, 0, 0, 0⟩ := Or.inl ⟨rfl, rfl, rfl, rfl⟩
theorem ex1 : fst_ Wd.zero 0 [(ev9, anR, []), (ev9, ⟨0, 0, 0, 0⟩, [])] = 1 := by
  rw [fst_, stp_ref right9 okR rfl, if_pos rfl]
  dsimp only
  rw [fst_, stp_go right9 ok0 (by decide) (by decide)]
  rfl
theorem ex2 : fst_ Wd.zero 0 [(ev9, anR, [])] = -1 := by
  rw [fst_, stp_ref right9 okR rfl, if_pos rfl]
  rfl

set_option maxRecDepth 100000 in
set_option maxHeartbeats 3200000 in
theorem head19 (w : World) : Calls Try.prog 5 #[] w fun e w' => e = .returned (.bool true) ∧ Below w.heap.size w w' := by
  have b0 : Below w.heap.size w w := Below.refl _ _
  go_enter Try.func5, Try.ntmps5
  go_wp2_with fail
  have b1 := b0.alloc (Nat.le_refl _) (.cells #[.int .i64 9, .int .i64 3, .int .i64 0, .int .i64 0, .int .i64 0, .int .i64 0, .int .i64 0, .int .i64 0, .int .i64 0, .int .i64 0, .int .i64 0, .int .i64 0, .int .i64 0, .int .i64 0, .slice none 0 0] 34)
  have b2 := b1.alloc b1.size (.cells #[.int .i64 9, .int .i64 3, .int .i64 0, .int .i64 0, .int .i64 0, .int .i64 0, .int .i64 0, .int .i64 0, .int .i64 0, .int .i64 0, .int .i64 1, .int .i64 0, .int .i64 0, .int .i64 2, .slice none 0 0] 34)
  have b3 := b2.alloc b2.size (.cells #[.int .i64 9, .int .i64 3, .int .i64 0, .int .i64 0, .int .i64 0, .int .i64 0, .int .i64 0, .int .i64 0, .int .i64 0, .int .i64 0, .int .i64 1, .int .i64 0, .int .i64 0, .int .i64 2, .slice none 0 0, .int .i64 9, .int .i64 3, .int .i64 0, .int .i64 0, .int .i64 0, .int .i64 0, .int .i64 0, .int .i64 0, .int .i64 0, .int .i64 0, .int .i64 0, .int .i64 0, .int .i64 0, .int .i64 0, .slice none 0 0] 34)
  have hrr := heap_alloc_new (w.alloc (.cells #[.int .i64 9, .int .i64 3, .int .i64 0, .int .i64 0, .int .i64 0, .int .i64 0, .int .i64 0, .int .i64 0, .int .i64 0, .int .i64 0, .int .i64 0, .int .i64 0, .int .i64 0, .int .i64 0, .slice none 0 0] 34)) (.cells #[.int .i64 9, .int .i64 3, .int .i64 0, .int .i64 0, .int .i64 0, .int .i64 0, .int .i64 0, .int .i64 0, .int .i64 0, .int .i64 0, .int .i64 1, .int .i64 0, .int .i64 0, .int .i64 2, .slice none 0 0] 34)
  rw [World.size_alloc] at hrr
  have hrr2 := (((Only.refl _ (fun _ => False)).alloc (.cells #[.int .i64 9, .int .i64 3, .int .i64 0, .int .i64 0, .int .i64 0, .int .i64 0, .int .i64 0, .int .i64 0, .int .i64 0, .int .i64 0, .int .i64 1, .int .i64 0, .int .i64 0, .int .i64 2, .slice none 0 0, .int .i64 9, .int .i64 3, .int .i64 0, .int .i64 0, .int .i64 0, .int .i64 0, .int .i64 0, .int .i64 0, .int .i64 0, .int .i64 0, .int .i64 0, .int .i64 0, .int .i64 0, .int .i64 0, .slice none 0 0] 34)).blk (fun q => q) hrr)
  have hro := heap_alloc_new ((w.alloc (.cells #[.int .i64 9, .int .i64 3, .int .i64 0, .int .i64 0, .int .i64 0, .int .i64 0, .int .i64 0, .int .i64 0, .int .i64 0, .int .i64 0, .int .i64 0, .int .i64 0, .int .i64 0, .int .i64 0, .slice none 0 0] 34)).alloc (.cells #[.int .i64 9, .int .i64 3, .int .i64 0, .int .i64 0, .int .i64 0, .int .i64 0, .int .i64 0, .int .i64 0, .int .i64 0, .int .i64 0, .int .i64 1, .int .i64 0, .int .i64 0, .int .i64 2, .slice none 0 0] 34)) (.cells #[.int .i64 9, .int .i64 3, .int .i64 0, .int .i64 0, .int .i64 0, .int .i64 0, .int .i64 0, .int .i64 0, .int .i64 0, .int .i64 0, .int .i64 1, .int .i64 0, .int .i64 0, .int .i64 2, .slice none 0 0, .int .i64 9, .int .i64 3, .int .i64 0, .int .i64 0, .int .i64 0, .int .i64 0, .int .i64 0, .int .i64 0, .int .i64 0, .int .i64 0, .int .i64 0, .int .i64 0, .int .i64 0, .int .i64 0, .slice none 0 0] 34)
  rw [World.size_alloc, World.size_alloc] at hro
  generalize ((w.alloc (.cells #[.int .i64 9, .int .i64 3, .int .i64 0, .int .i64 0, .int .i64 0, .int .i64 0, .int .i64 0, .int .i64 0, .int .i64 0, .int .i64 0, .int .i64 0, .int .i64 0, .int .i64 0, .int .i64 0, .slice none 0 0] 34)).alloc (.cells #[.int .i64 9, .int .i64 3, .int .i64 0, .int .i64 0, .int .i64 0, .int .i64 0, .int .i64 0, .int .i64 0, .int .i64 0, .int .i64 0, .int .i64 1, .int .i64 0, .int .i64 0, .int .i64 2, .slice none 0 0] 34)).alloc (.cells #[.int .i64 9, .int .i64 3, .int .i64 0, .int .i64 0, .int .i64 0, .int .i64 0, .int .i64 0, .int .i64 0, .int .i64 0, .int .i64 0, .int .i64 1, .int .i64 0, .int .i64 0, .int .i64 2, .slice none 0 0, .int .i64 9, .int .i64 3, .int .i64 0, .int .i64 0, .int .i64 0, .int .i64 0, .int .i64 0, .int .i64 0, .int .i64 0, .int .i64 0, .int .i64 0, .int .i64 0, .int .i64 0, .int .i64 0, .slice none 0 0] 34) = w3 at b3 hrr2 hro ⊢
  clear b1 b2 hrr b0
  have hSL := SL_of (B := w3.heap.size) (Cs := fun _ => []) (Row.lit (n := 2) (fun k => if k = 0 then (ev9, anR, none, 0) else (ev9, ⟨0, 0, 0, 0⟩, none, 0)) hro rfl (by decide)) (lt_of_row hro) (fun k hk => ⟨by by_cases q : k = 0 <;> simp [q], CL.nil _ _ _, fun c hc => (by cases hc)⟩)
  have HF := Lib.hid (c_First w3 (some ⟨w.heap.size + 1 + 1, 0, none⟩) 2 2 _ rfl hSL (by decide))
  clear hSL hro
  refine HF.out.mono ?_
  rintro e w4 ⟨rfl, b4⟩
  rw [show fst_ Wd.zero 0 (steps (fun k => if k = 0 then (ev9, anR, none, 0) else (ev9, ⟨0, 0, 0, 0⟩, none, 0)) (fun _ => []) 2) = 1 from ex1]
  have hr4 : w4.heap[w.heap.size + 1]? = some (.cells #[.int .i64 9, .int .i64 3, .int .i64 0, .int .i64 0, .int .i64 0, .int .i64 0, .int .i64 0, .int .i64 0, .int .i64 0, .int .i64 0, .int .i64 1, .int .i64 0, .int .i64 0, .int .i64 2, .slice none 0 0] 34 (0, 0)) := by rw [b4.block _ (lt_of_row hrr2)]; exact hrr2
  have y0 := cellB hr4 0 _ rfl
  have y1 := cellB hr4 1 _ rfl
  have y2 := cellB hr4 2 _ rfl
  have y3 := cellB hr4 3 _ rfl
  have y4 := cellB hr4 4 _ rfl
  have y5 := cellB hr4 5 _ rfl
  have y6 := cellB hr4 6 _ rfl
  have y7 := cellB hr4 7 _ rfl
  have y8 := cellB hr4 8 _ rfl
  have y9 := cellB hr4 9 _ rfl
  have y10 := cellB hr4 10 _ rfl
  have y11 := cellB hr4 11 _ rfl
  have y12 := cellB hr4 12 _ rfl
  have y13 := cellB hr4 13 _ rfl
  have y14 := cellB hr4 14 _ rfl
  have b5 := b3.trans (b4.mono b3.size)
  clear HF hrr2 b3 b4 hr4
  go_wp2_with fail
  have hro := heap_alloc_new w4 (.cells #[.int .i64 9, .int .i64 3, .int .i64 0, .int .i64 0, .int .i64 0, .int .i64 0, .int .i64 0, .int .i64 0, .int .i64 0, .int .i64 0, .int .i64 1, .int .i64 0, .int .i64 0, .int .i64 2, .slice none 0 0] 34)
  have b6 := b5.alloc b5.size (.cells #[.int .i64 9, .int .i64 3, .int .i64 0, .int .i64 0, .int .i64 0, .int .i64 0, .int .i64 0, .int .i64 0, .int .i64 0, .int .i64 0, .int .i64 1, .int .i64 0, .int .i64 0, .int .i64 2, .slice none 0 0] 34)
  obtain ⟨q, hq⟩ : ∃ q, w4.heap.size = q := ⟨_, rfl⟩
  rw [hq] at hro
  rw [hq]
  generalize w4.alloc (.cells #[.int .i64 9, .int .i64 3, .int .i64 0, .int .i64 0, .int .i64 0, .int .i64 0, .int .i64 0, .int .i64 0, .int .i64 0, .int .i64 0, .int .i64 1, .int .i64 0, .int .i64 0, .int .i64 2, .slice none 0 0] 34) = w5 at hro b6 ⊢
  have hSL := SL_of (B := w5.heap.size) (Cs := fun _ => []) (Row.lit (n := 1) (fun k => (ev9, anR, none, 0)) hro rfl (by decide)) (lt_of_row hro) (fun k hk => ⟨rfl, CL.nil _ _ _, fun c hc => (by cases hc)⟩)
  have HF := Lib.hid (c_First w5 (some ⟨q, 0, none⟩) 1 1 _ rfl hSL (by decide))
  clear hSL hro y0 y1 y2 y3 y4 y5 y6 y7 y8 y9 y10 y11 y12 y13 y14
  refine HF.out.mono ?_
  rintro e w6 ⟨rfl, b7⟩
  rw [show fst_ Wd.zero 0 (steps (fun k => (ev9, anR, none, 0)) (fun _ => []) 1) = -1 from ex2]
  have b8 := b6.trans (b7.mono b6.size)
  clear HF b6 b7 b5
  go_wp2
  go_ret
  exact ⟨rfl, b8⟩
end Go.Proofs.Ytgpookphacdgoaa.W.U
