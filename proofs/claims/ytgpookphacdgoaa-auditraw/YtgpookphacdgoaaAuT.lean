/- Package audit's law: the law's own reckoning in memory; find. -/
import Derived.Test.YtgpookphacdgoaaAuL
import Derived.Deep.LoopGhost
namespace Go.Proofs.Ytgpookphacdgoaa.W.U
open Go.RowKit Go.Maps Go.ChangeMaps Go.MapKept Go.Proofs.Ytgpookphacdgoaa.W

theorem encB : Enc brow 5 := ⟨fun _ => rfl, by decide, fun x u hu => by simp at hu; rcases hu with rfl | rfl | rfl | rfl | rfl <;> rfl⟩
def noB : Bv := ⟨0, 0, 0, false, false⟩
def boT (L : List Bv) : Nat → Bv := fun j => L.getD j noB
theorem boT_at {L : List Bv} {j : Nat} {b : Bv} (h : L[j]? = some b) : boT L j = b := by unfold boT; rw [List.getD_eq_getElem?_getD, h]; rfl
theorem boT_some {L : List Bv} {j : Nat} (h : j < L.length) : L[j]? = some (boT L j) := by unfold boT; rw [List.getD_eq_getElem?_getD, List.getElem?_eq_getElem h]; rfl
theorem sizeBo : (Try.prog.info? 57).map (·.size) = some 5 := by kernel_rfl
/-- The blocks of the law's world. -/
def Ow (q gs gm : Nat) (G : Option Nat) (j : Nat) : Prop := j = q ∨ j = gs ∨ j = gm ∨ G = some j
structure Wl (w : World) (q gs gm : Nat) (G : Option Nat) (W : Wd) (N : Nat) : Prop where
  row : ∃ v, w.heap[q]? = some (.cells #[v, .map (some gs), .map (some gm), .int .i64 W.nx] 47 (0, 0)) ∧ Its brow 5 57 w v G W.L.length (boT W.L)
  sz : ∃ Ms c, Mp Try.prog 3 w gs Ms c ∧ c ≤ N ∧ ∀ x, (Ms x).getD (.int .i64 0) = .int .i64 (W.sz x)
  me : ∃ c, Mp Try.prog 3 w gm (fun f => (W.me f).map (fun m => .int .i64 m)) c ∧ c ≤ N
  d1 : q ≠ gs
  d2 : q ≠ gm
  d3 : gs ≠ gm
  d4 : ∀ g, G = some g → g ≠ q ∧ g ≠ gs ∧ g ≠ gm
  gd : Gd W N
section
variable {w w' : World} {q gs gm : Nat} {G : Option Nat} {W : Wd} {N : Nat}
theorem Wl.lt (h : Wl w q gs gm G W N) {j : Nat} (hj : Ow q gs gm G j) : j < w.heap.size := by
  obtain ⟨v, h1, h2⟩ := h.row
  rcases hj with rfl | rfl | rfl | hj
  · exact lt_of_row h1
  · obtain ⟨_, _, h3, _⟩ := h.sz; exact h3.lt
  · obtain ⟨_, h3, _⟩ := h.me; exact h3.lt
  · exact h2.lt j hj
theorem Wl.kept {S : Nat → Prop} (h : Wl w q gs gm G W N) (ho : Only w w' S) (hS : ∀ j, Ow q gs gm G j → ¬ S j) : Wl w' q gs gm G W N := by
  obtain ⟨v, h1, h2⟩ := h.row
  obtain ⟨Ms, c, h3, h4⟩ := h.sz
  obtain ⟨c2, h5, h6⟩ := h.me
  exact ⟨⟨v, ho.blk (hS _ (Or.inl rfl)) h1, h2.kept ho (fun g hg => hS g (Or.inr (Or.inr (Or.inr hg))))⟩, ⟨Ms, c, h3.kept ho (hS _ (Or.inr (Or.inl rfl))), h4⟩, ⟨c2, h5.kept ho (hS _ (Or.inr (Or.inr (Or.inl rfl)))), h6⟩, h.d1, h.d2, h.d3, h.d4, h.gd⟩
theorem Wl.below (h : Wl w q gs gm G W N) (hb : Below w.heap.size w w') : Wl w' q gs gm G W N := h.kept (Only.of_below (S := fun _ => False) hb) (fun _ _ q => q)
theorem Wl.up {M : Nat} (h : Wl w q gs gm G W N) (hm : N ≤ M) : Wl w q gs gm G W M := by
  obtain ⟨Ms, c, h3, h4, h5⟩ := h.sz
  obtain ⟨c2, h6, h7⟩ := h.me
  exact { h with sz := ⟨Ms, c, h3, Nat.le_trans h4 hm, h5⟩, me := ⟨c2, h6, Nat.le_trans h7 hm⟩, gd := h.gd.up hm }
end
/-- A sandbox of the law's list, in memory: at whichever address. -/
theorem Wl.item {w : World} {q gs gm : Nat} {G : Option Nat} {W : Wd} {N : Nat} (h : Wl w q gs gm G W N) {k : Nat} {b : Bv} (hk : W.L[k]? = some b) : ∃ (ad : Addr) (cap : Nat) (g : Nat), ad = ⟨g, 0, none⟩ ∧ G = some g ∧ w.cell? ⟨q, 0, none⟩ = some (.slice (some ad) W.L.length cap) ∧ k < W.L.length ∧
    w.cell? (ad.add (k * 5)) = some (.int .i64 b.id) ∧ w.cell? ⟨(ad.add (k * 5)).block, (ad.add (k * 5)).off + 1, none⟩ = some (.int .i64 b.fn) ∧ w.cell? ⟨(ad.add (k * 5)).block, (ad.add (k * 5)).off + 2, none⟩ = some (.int .i64 b.ho) ∧ w.cell? ⟨(ad.add (k * 5)).block, (ad.add (k * 5)).off + 3, none⟩ = some (.bool b.boots) ∧ w.cell? ⟨(ad.add (k * 5)).block, (ad.add (k * 5)).off + 4, none⟩ = some (.bool b.busy) := by
  obtain ⟨v, h1, h2⟩ := h.row
  have hkl := (List.getElem?_eq_some_iff.1 hk).1
  obtain ⟨g, cap, hG, rfl, hrow⟩ := h2.some_ (by omega)
  have hb := boT_at hk
  have key : ∀ j v, (brow b)[j]? = some v → w.cell? ((⟨g, 0, none⟩ : Addr).add (k * 5 + j)) = some v := by
    intro j v hv
    rw [← hb] at hv
    rw [Addr.add_mid, Nat.zero_add]
    exact hrow.cell hkl hv rfl
  refine ⟨⟨g, 0, none⟩, cap, g, rfl, hG, cellB h1 0 _ rfl, hkl, ?_, cell_in0 (by decide) (key 1 _ rfl), cell_in0 (by decide) (key 2 _ rfl), cell_in0 (by decide) (key 3 _ rfl), cell_in0 (by decide) (key 4 _ rfl)⟩
  have := key 0 _ rfl
  rw [Nat.add_zero] at this
  exact this

/-- What find tells. -/
def Fd (L : List Bv) (i r : Int) : Prop := (r = -1 ∧ fnd L i = none) ∨ ∃ (k : Nat) (b : Bv), r = (k : Int) ∧ At L i k b

set_option maxRecDepth 100000 in
set_option maxHeartbeats 1600000 in
theorem l_find {w : World} {q gs gm : Nat} {G : Option Nat} {W : Wd} {N : Nat} (h : Wl w q gs gm G W N) (hN : N ≤ 1048576) (id : Int) : Calls Try.prog 17 #[ptr q, .int .i64 id] w fun e w' => ∃ r, e = .returned (.int .i64 r) ∧ Fd W.L id r ∧ Below w.heap.size w w' := by
  obtain ⟨v, h1, h2⟩ := h.row
  obtain ⟨A, cap, rfl, hcap⟩ := h2.slice
  obtain ⟨n, hn⟩ : ∃ n, W.L.length = n := ⟨_, rfl⟩
  rw [hn] at h1 h2
  have hnN : n ≤ 1048576 := by have := h.gd.len; omega
  have c0 := cellB h1 0 _ rfl
  have HN := Lib.hid hn
  have b0 : Below w.heap.size w w := Below.refl _ _
  have HW := Lib.hid h
  have HC0 := Lib.hid c0
  clear hn h1 h2 h hcap
  go_enter Try.func17, Try.ntmps17
  go_wp2_with fail
  go_loopg [12] n (fun gk v12 wr => ∃ k : Nat, v12 = .int .i64 (k : Int) ∧ k + gk = n ∧ Hid (∀ j, j < k → ∀ c, W.L[j]? = some c → c.id ≠ id) ∧ Hid (Below w.heap.size w wr))
  case atStart => exact ⟨0, rfl, by omega, Lib.hid (fun j hj => by omega), Lib.hid b0⟩
  case round =>
    clear b0 c0
    obtain ⟨k, rfl, hk, HF, HB⟩ := hrel
    have HK := Lib.hid hk
    by_cases hlt : k < n
    · have hki : (k : Int) < (n : Int) := by omega
      have hkl : k < W.L.length := by rw [HN.out]; exact hlt
      obtain ⟨⟨bi, bf, bh, bb, bu⟩, hat⟩ : ∃ b, W.L[k]? = some b := ⟨_, boT_some hkl⟩
      obtain ⟨ad, cap', g, hAd, hG, y0', _, y1, y2, y3, y4, y5⟩ := (HW.out.below HB.out).item hat
      have hq0 : wr.cell? ⟨q, 0, none⟩ = some (.slice A n cap) := by rw [HB.out.cell (cell_lt HC0.out)]; exact HC0.out
      rw [hq0, HN.out] at y0'
      injection y0' with y0'
      injection y0' with e1 e2 e3
      subst e1
      have HAT := Lib.hid hat
      have HB1 := Lib.hid (HB.out.alloc HB.out.size (.cells #[.int .i64 bi, .int .i64 bf, .int .i64 bh, .bool bb, .bool bu] 57))
      clear hat hk HB hq0 e2 e3 hAd hG
      by_cases he : bi = id
      · subst he
        have HFD : Hid (Fd W.L bi (k : Int)) := Lib.hid (Or.inr ⟨k, _, rfl, HAT.out, rfl, HF.out⟩)
        go_wp2_with fail
        go_ret
        exact ⟨_, rfl, HFD.out, HB1.out⟩
      · have hd : (bi == id) = false := beq_false_of_ne he
        have HF1 : Hid (∀ j, j < k + 1 → ∀ c, W.L[j]? = some c → c.id ≠ id) := Lib.hid (fun j hj c hc => by
          by_cases e : j = k
          · subst e; rw [HAT.out] at hc; cases hc; exact he
          · exact HF.out j (by omega) c hc)
        clear he
        go_wp2_with fail
        go_roundg (n - k - 1)
        case measure => have := HK.out; omega
        case rel => exact ⟨k + 1, by go_num, by have := HK.out; omega, HF1, HB1⟩
    · obtain rfl : k = n := by omega
      have hd : decide ((k : Int) < (k : Int)) = false := by simp
      have HFD : Hid (Fd W.L id (-1)) := Lib.hid (Or.inl ⟨rfl, At.none (fun j c hc => HF.out j (by have := (List.getElem?_eq_some_iff.1 hc).1; rw [HN.out] at this; exact this) c hc)⟩)
      clear hk hlt
      go_wp2_with fail
      go_ret
      exact ⟨_, rfl, HFD.out, HB.out⟩
end Go.Proofs.Ytgpookphacdgoaa.W.U
