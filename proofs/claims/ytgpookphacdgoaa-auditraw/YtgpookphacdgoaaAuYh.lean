/- Package audit's law: what turns in its world. Made by mk_auy.py. -/
import Derived.Test.YtgpookphacdgoaaAuW
namespace Go.Proofs.Ytgpookphacdgoaa.W.U
open Go.RowKit Go.Maps Go.ChangeMaps Go.MapKept Go.Proofs.Ytgpookphacdgoaa.W

theorem boT_set' {L : List Bv} {k : Nat} (hk : k < L.length) (b : Bv) : upd (boT L) k b = boT (L.set k b) := funext (boT_set hk b)
/-- A flag of a sandbox. -/
theorem Wl.mark {w : World} {q gs gm : Nat} {G : Option Nat} {W : Wd} {N : Nat} (h : Wl w q gs gm G W N) {id : Int} {k : Nat} {b : Bv} (ha : At W.L id k b) {f : Bv → Bv} (h1 : ∀ b, (f b).id = b.id) (h2 : ∀ b, (f b).fn = b.fn) (h3 : ∀ b, (f b).ho = b.ho) {c : Nat} (hc : c < 5) {u : Value} (hx : brow (f b) = (brow b).set c u) :
    ∃ (cur : List Value) (g : Nat), G = some g ∧ w.heap[g]? = some (.cells cur.toArray 57 (0, 0)) ∧ k * 5 + c < cur.length ∧ ∀ w', w'.heap[g]? = some (.cells (cur.set (k * 5 + c) u).toArray 57 (0, 0)) → w.grownBy w' (some g) → Wl w' q gs gm G { W with L := up1 f id W.L } N := by
  obtain ⟨v, r1, r2⟩ := h.row
  have hk := ha.lt
  obtain ⟨g, cap, hG, rfl, hrow⟩ := r2.some_ (by omega)
  have hb := boT_at ha.1
  obtain ⟨cur, e1, e2, e3⟩ := Row.cellset encB hrow hk hc (x := f b) (u := u) (by rw [hb]; exact hx)
  refine ⟨cur, g, hG, e1, e2, fun w' hw hg => ?_⟩
  have ho : Only w w' (fun j => j = g) := Only.grown hg (Or.inl rfl)
  obtain ⟨d1, d2, d3⟩ := h.d4 g hG
  obtain ⟨Ms, cc, s1, s2, s3⟩ := h.sz
  obtain ⟨c2, m1, m2⟩ := h.me
  have hl : (up1 f id W.L).length = W.L.length := (up1_same h2 h3 id W.me 0 0 W.L).2.2
  have hset : up1 f id W.L = W.L.set k (f b) := ha.all.2.2 f
  refine ⟨⟨_, ho.blk d1.symm r1, Or.inr ⟨g, cap, hG, by rw [show ({ W with L := up1 f id W.L } : Wd).L.length = W.L.length from hl], ?_⟩⟩, ⟨Ms, cc, s1.kept ho (fun t => d2 t.symm), s2, s3⟩, ⟨c2, m1.kept ho (fun t => d3 t.symm), m2⟩, h.d1, h.d2, h.d3, h.d4, h.gd.up1 h1 h2 h3 id⟩
  rw [show ({ W with L := up1 f id W.L } : Wd).L = W.L.set k (f b) from hset, List.length_set, ← boT_set' hk]
  exact e3 w' hw
theorem Wl.setSz {w w' : World} {q gs gm : Nat} {G : Option Nat} {W : Wd} {N : Nat} (h : Wl w q gs gm G W N) {Ms : Int → Option Value} {c c' : Nat} {i n : Int} (hc : c ≤ N) (hM : ∀ x, (Ms x).getD (.int .i64 0) = .int .i64 (W.sz x)) (hm : Mp Try.prog 3 w' gs (updZ Ms i (some (.int .i64 n))) c') (hc' : c' = if (Ms i).isSome then c else c + 1) (hg : w.grownBy w' (some gs)) (hgd : Gd { W with sz := upI W.sz i n } (N + 1)) : Wl w' q gs gm G { W with sz := upI W.sz i n } (N + 1) := by
  have ho : Only w w' (fun j => j = gs) := Only.grown hg (Or.inl rfl)
  have hk : Wl w' q gs gm G W N → True := fun _ => trivial
  obtain ⟨v, r1, r2⟩ := h.row
  obtain ⟨c2, m1, m2⟩ := h.me
  refine ⟨⟨v, ho.blk h.d1 r1, r2.kept ho (fun g hg t => (h.d4 g hg).2.1 t)⟩, ⟨_, c', hm, by rw [hc']; split <;> omega, fun x => ?_⟩, ⟨c2, m1.kept ho h.d3.symm, by omega⟩, h.d1, h.d2, h.d3, h.d4, hgd⟩
  show _ = Value.int .i64 (upI W.sz i n x)
  unfold updZ upI
  split
  · rfl
  · exact hM x
theorem Wl.setMe {w w' : World} {q gs gm : Nat} {G : Option Nat} {W : Wd} {N : Nat} (h : Wl w q gs gm G W N) {c c' : Nat} {i n : Int} (hc : c ≤ N) (hm : Mp Try.prog 3 w' gm (updZ (fun f => (W.me f).map (fun m => Value.int .i64 m)) i (some (.int .i64 n))) c') (hc' : c' = if ((fun f => (W.me f).map (fun m => Value.int .i64 m)) i).isSome then c else c + 1) (hg : w.grownBy w' (some gm)) (hgd : Gd { W with me := updZ W.me i (some n) } (N + 1)) : Wl w' q gs gm G { W with me := updZ W.me i (some n) } (N + 1) := by
  have ho : Only w w' (fun j => j = gm) := Only.grown hg (Or.inl rfl)
  obtain ⟨v, r1, r2⟩ := h.row
  obtain ⟨Ms, cc, s1, s2, s3⟩ := h.sz
  refine ⟨⟨v, ho.blk h.d2 r1, r2.kept ho (fun g hg t => (h.d4 g hg).2.2 t)⟩, ⟨Ms, cc, s1.kept ho h.d3, by omega, s3⟩, ⟨c', Mp.vals hm (funext fun f => ?_), by rw [hc']; split <;> omega⟩, h.d1, h.d2, h.d3, h.d4, hgd⟩
  show updZ _ i _ f = (updZ W.me i (some n) f).map _
  unfold updZ
  by_cases e : f = i
  · rw [if_pos e, if_pos e]; rfl
  · rw [if_neg e, if_neg e]
theorem Gd.sub {W : Wd} {N : Nat} (g : Gd W N) {L : List Bv} (hs : L.Sublist W.L) : Gd { W with L := L } N :=
  ⟨Nat.le_trans hs.length_le g.len, g.nx1, g.nxN, fun b hb => g.ids b (hs.subset hb), g.dis.sublist hs, fun b hb => g.fns b (hs.subset hb), g.mem, g.szs, fun b hb => g.wfs b (hs.subset hb)⟩
theorem Wl.setL {w w' : World} {q gs gm g' m cap' : Nat} {G : Option Nat} {W : Wd} {N : Nat} (h : Wl w q gs gm G W N) {L : List Bv} (hm : L.length = m) (hr : Row brow 5 57 w g' m cap' (boT L)) (hne : g' ≠ q ∧ g' ≠ gs ∧ g' ≠ gm) (hw : w'.heap[q]? = some (.cells #[.slice (some ⟨g', 0, none⟩) m cap', .map (some gs), .map (some gm), .int .i64 W.nx] 47 (0, 0))) (hg : w.grownBy w' (some q)) (hgd : Gd { W with L := L } N) : Wl w' q gs gm (some g') { W with L := L } N := by
  subst hm
  have ho : Only w w' (fun j => j = q) := Only.grown hg (Or.inl rfl)
  obtain ⟨Ms, cc, s1, s2, s3⟩ := h.sz
  obtain ⟨c2, m1, m2⟩ := h.me
  exact ⟨⟨_, hw, Or.inr ⟨g', cap', rfl, rfl, hr.kept ho hne.1⟩⟩, ⟨Ms, cc, s1.kept ho h.d1.symm, s2, s3⟩, ⟨c2, m1.kept ho h.d2.symm, m2⟩, h.d1, h.d2, h.d3, fun g hg => by cases hg; exact hne, hgd⟩
end Go.Proofs.Ytgpookphacdgoaa.W.U
