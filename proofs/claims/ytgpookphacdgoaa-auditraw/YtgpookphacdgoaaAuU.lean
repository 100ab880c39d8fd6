/- Package audit's law: a sandbox out of its list. -/
import Derived.Test.YtgpookphacdgoaaAuT
import Derived.BigRegion
import Derived.Maps.AppendAt
namespace Go.Proofs.Ytgpookphacdgoaa.W.U
open Go.RowKit Go.Maps Go.ChangeMaps Go.MapKept Go.Proofs.Ytgpookphacdgoaa.W

theorem infoBo : (Try.prog.info? 57).map (fun i => (i.zero, i.size, i.bytes)) = some (some (.agg #[.int .i64 0, .int .i64 0, .int .i64 0, .bool false, .bool false]), 5, 32) := by kernel_rfl
theorem info3b {P : Program} {t : TypeId} {z : Value} {s b : Nat} (h : (P.info? t).map (fun i => (i.zero, i.size, i.bytes)) = some (some z, s, b)) : ∃ i, P.info? t = some i ∧ i.zero = some z ∧ i.size = s ∧ i.bytes = b := by
  cases q : P.info? t with
  | none => rw [q] at h; cases h
  | some i =>
    rw [q] at h
    simp only [Option.map_some, Option.some.injEq, Prod.mk.injEq] at h
    exact ⟨i, rfl, h.1, h.2.1, h.2.2⟩
/-- append of items that lie in a slice, to one that is not nil: the run. -/
theorem run_items {I : Type} {ic : I → List Value} {sz : Nat} {t : TypeId} {w : World} {P : Program} (E : Enc ic sz) (ty rt : TypeId) (i : TypeInfo) (z : Value) (bytes : Nat) (ht : P.underlying ty = some (.slice t)) (hi : P.info? t = some i) (hz : i.zero = some z) (hsize : i.size = sz) (hby : i.bytes = bytes) (hzs : z.cells.size = sz)
    (g0 n cap0 : Nat) (T : Nat → I) (hrow : Row ic sz t w g0 n cap0 T) (g1 off m c1 : Nat) (T' : Nat → I) (hl : ∀ j, j < m → ∀ c u, (ic (T' j))[c]? = some u → w.cell? ⟨g1, off + (j * sz + c), none⟩ = some u) (hn : n + m ≤ maxLen) (hbytes : (n + m) * bytes ≤ 140737488355328) :
    ∃ g cap w', (Builtin.append_ #[ty, ty] rt #[.slice (some ⟨g0, 0, none⟩) n cap0, .slice (some ⟨g1, off, none⟩) m c1]).run P w = .ok (.slice (some ⟨g, 0, none⟩) (n + m) cap) w' ∧ Row ic sz t w' g (n + m) cap (fun j => if j < n then T j else T' (j - n)) ∧ Only w w' (fun j => j = g0) ∧ (g = g0 ∨ w.heap.size = g) := by
  obtain ⟨v', w', hrun, hown, hgr, _, hblk⟩ := run_append_own_at (P := P) w 0 ty rt t i z sz bytes ht hi hz hsize hby hzs E.pos (.slice (some ⟨g0, 0, none⟩) n cap0) n (flat ic T n) (hrow.owns E) ⟨g1, off, none⟩ m c1 (flat ic T' m) (flat_len E T' m) (fun j u hj => by
      have hjl := (List.getElem?_eq_some_iff.1 hj).1
      rw [flat_len E] at hjl
      have hs := E.pos
      have hk : j = j / sz * sz + j % sz := by rw [Nat.mul_comm]; exact (Nat.div_add_mod j sz).symm
      have hjm : j / sz < m := (Nat.div_lt_iff_lt_mul hs).2 hjl
      have hc : j % sz < sz := Nat.mod_lt _ hs
      rw [hk, flat_at E T' m _ _ hjm hc] at hj
      rw [Addr.add_mid, hk]
      exact hl _ hjm _ _ hj) (fun u hu => by
      unfold flat at hu
      obtain ⟨j, _, hj⟩ := List.mem_flatMap.1 hu
      exact E.one _ u hj) hn hbytes (Nat.zero_le _)
  rcases hown.2 with ⟨rfl, q⟩ | ⟨g, cap, cur, rfl, q⟩
  · rcases hblk with hb | hb
    · simp [Value.ownBlock] at hb
    · simp [Value.ownBlock] at hb
  · have hfl : flat ic (fun j => if j < n then T j else T' (j - n)) (n + m) = flat ic T n ++ flat ic T' m := by
      have key : ∀ m, flat ic (fun j => if j < n then T j else T' (j - n)) (n + m) = flat ic T n ++ flat ic T' m := by
        intro m
        induction m with
        | zero => rw [Nat.add_zero, flat_ext (T' := fun j => if j < n then T j else T' (j - n)) (T := T) (fun j hj => if_pos hj)]; simp [flat]
        | succ m ih => rw [← Nat.add_assoc, flat_succ, flat_succ, ih, if_neg (by omega), show n + m - n = m by omega, List.append_assoc]
      exact key m
    refine ⟨g, cap, w', hrun, Row.of_owns E (by rw [hfl]; exact hown), Only.grown (r := g0) hgr (Or.inl rfl), ?_⟩
    rcases hblk with hb | hb
    · left; simpa [Value.ownBlock] using hb
    · right; simp [Value.ownBlock] at hb; exact hb.symm

theorem drop_done {w w3 : World} {q gs gm g : Nat} {W : Wd} {N : Nat} (h : Wl w q gs gm (some g) W N) {id : Int} {k n m cap cap0 g3 : Nat} {b : Bv} {T : Nat → Bv} (ha : At W.L id k b) (hn : W.L.length = n) (hb3 : Below w.heap.size w w3)
    (hq3 : w3.heap[q]? = some (.cells #[.slice (some ⟨g, 0, none⟩) n cap0, .map (some gs), .map (some gm), .int .i64 W.nx] 47 (0, 0))) (hg3 : w.heap.size ≤ g3) (hm : k + m + 1 = n) (hr3 : Row brow 5 57 w3 g3 (k + m) cap (fun j => if j < k then T j else boT W.L (k + 1 + (j - k)))) (hT : ∀ j, j < k → T j = boT W.L j) (v : Value) (hv : v = .slice (some ⟨g3, 0, none⟩) (k + m) cap) :
    ∃ G', Wl (w3.setCell ⟨q, 0, none⟩ v) q gs gm G' { W with L := drp W.L id } N ∧ Only w (w3.setCell ⟨q, 0, none⟩ v) (Ow q gs gm (some g)) ∧ ∀ x, G' = some x → w.heap.size ≤ x := by
  subst hv
  have hset := grown_set w3 0 q 0 (.slice (some ⟨g3, 0, none⟩) (k + m) cap)
  have hrow := set_rowL (cs := [.slice (some ⟨g, 0, none⟩) n cap0, .map (some gs), .map (some gm), .int .i64 W.nx]) hq3 0 (.slice (some ⟨g3, 0, none⟩) (k + m) cap)
  have hqw := h.lt (j := q) (Or.inl rfl)
  have ho : Only w3 (w3.setCell ⟨q, 0, none⟩ (.slice (some ⟨g3, 0, none⟩) (k + m) cap)) (fun j => j = q) := Only.grown hset (Or.inl rfl)
  have o3 : Only w w3 (fun _ => False) := Only.of_below hb3
  have hd := ha.all.2.1
  have hlen : (drp W.L id).length = k + m := by rw [hd]; simp; omega
  have hkl := ha.lt
  obtain ⟨Ms, c, s1, s2, s3⟩ := h.sz
  obtain ⟨c2, e1, e2⟩ := h.me
  refine ⟨some g3, ⟨⟨_, hrow, Or.inr ⟨g3, cap, rfl, by rw [hlen], ?_⟩⟩, ⟨Ms, c, (s1.kept o3 (fun t => t)).kept ho (fun t => h.d1 t.symm), s2, s3⟩, ⟨c2, (e1.kept o3 (fun t => t)).kept ho (fun t => h.d2 t.symm), e2⟩, h.d1, h.d2, h.d3, fun x hx => ?_, h.gd.drp id⟩, (o3.mono (fun j t => t.elim)).tr (ho.mono (fun j t => Or.inl t)), fun x hx => by cases hx; exact hg3⟩
  · rw [hlen]
    refine ((hr3.kept ho (by omega)).ext (fun j hj => ?_))
    show boT (drp W.L id) j = _
    rw [hd]
    unfold boT
    rw [List.getD_eq_getElem?_getD, List.getElem?_append]
    by_cases e : j < k
    · rw [if_pos (by rw [List.length_take]; omega), List.getElem?_take_of_lt e, if_pos e, hT j e]
      unfold boT; rw [List.getD_eq_getElem?_getD]
    · rw [if_neg (by rw [List.length_take]; omega), if_neg e, List.getD_eq_getElem?_getD, List.getElem?_drop]
      congr 2
      rw [List.length_take]; omega
  · cases hx
    have h1 := h.lt (j := gs) (Or.inr (Or.inl rfl))
    have h2 := h.lt (j := gm) (Or.inr (Or.inr (Or.inl rfl)))
    refine ⟨by omega, by omega, by omega⟩

end Go.Proofs.Ytgpookphacdgoaa.W.U
