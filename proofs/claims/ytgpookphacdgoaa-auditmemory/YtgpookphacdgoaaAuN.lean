/- Package audit's law AuditMemory: plain; laws for slices of structs. Made by mk_aun.py. -/
import Derived.Test.YtgpookphacdgoaaAuL
namespace Go.Proofs.Ytgpookphacdgoaa.W.U
open Go.RowKit Go.Maps Go.ChangeMaps Go.MapKept Go.Proofs.Ytgpookphacdgoaa.W

/-- append of items, which lie in a slice: to one that is not nil. -/
theorem wpList_item_appN {I : Type} {ic : I → List Value} {sz : Nat} {t : TypeId} {w : World} {P : Program} {ops : Array Oper} {rest : List Oper} {o : Oper} {a : Act} {Q : Exit → Act → World → Prop} (E : Enc ic sz) (hgd : o.guard = none) (s x : Operand) (ty : TypeId) (ho : o.op = .call { callee := .builtin .append, args := #[s, x], argTypes := #[ty, ty] })
    (i : TypeInfo) (z : Value) (bytes : Nat) (ht : P.underlying ty = some (.slice t)) (hi : P.info? t = some i) (hz : i.zero = some z) (hsize : i.size = sz) (hby : i.bytes = bytes) (hzs : z.cells.size = sz)
    (g0 n cap0 : Nat) (T : Nat → I) (hs : a.eval s = .slice (some ⟨g0, 0, none⟩) n cap0) (hrow : Row ic sz t w g0 n cap0 T) (sv : Value) (G : Option Nat) (m : Nat) (T' : Nat → I) (hx : a.eval x = sv) (hits : Its ic sz t w sv G m T') (hn : n + m ≤ maxLen) (hbytes : (n + m) * bytes ≤ 140737488355328)
    (h : ∀ g cap w', Row ic sz t w' g (n + m) cap (fun j => if j < n then T j else T' (j - n)) → Only w w' (fun j => j = g0) → (g = g0 ∨ w.heap.size ≤ g) → wpList P ops Q rest (a.put o.dst (.slice (some ⟨g, 0, none⟩) (n + m) cap)) w') : wpList P ops Q (o :: rest) a w := by
  rcases hits with ⟨_, rfl, rfl⟩ | ⟨g1, c1, _, rfl, hr1⟩
  · refine wpList_plain hgd fun K hK => ?_
    have hnc := hrow.cap_.1
    have hrun : (Builtin.append_ #[ty, ty] o.type #[.slice (some ⟨g0, 0, none⟩) n cap0, .slice none 0 0]).run P w = .ok (.slice (some ⟨g0, 0, none⟩) n cap0) w := by
      simp [Builtin.append_, run_underlying ht, sizeOf, typeInfo, hi, Builtin.lenOf, Builtin.firstCells, hnc, storeCells]
    unfold Oper.wp
    simp [execOp, ho, resolve, invoke, builtin, hs, hx, hrun, Result.andThen]
    exact hK _ _ (h g0 cap0 w (hrow.ext (fun j hj => by rw [if_pos hj])) (Only.refl _ _) (Or.inl rfl))
  · rcases Nat.eq_zero_or_pos m with rfl | hm
    · refine wpList_append_fits w hgd s x ty ho 0 t i sz ht hi hsize g0 n cap0 (flat ic T n) hs (hrow.owns E) ⟨g1, 0, none⟩ 0 c1 [] hx (by simp) (by simp) (by simp) (by have := hrow.cap_.1; omega) ?_
      intro w' h2 h3
      refine h g0 cap0 w' (Row.of_owns E ?_) (Only.grown h3 (Or.inl rfl)) (Or.inl rfl)
      simp only [List.append_nil, Nat.add_zero] at h2 ⊢
      rw [flat_ext (T' := fun j => if j < n then T j else T' (j - n)) (T := T) (fun j hj => if_pos hj)]; exact h2
    · refine wpList_append_lies w hgd s x ty ho 0 t i z sz bytes ht hi hz hsize hby hzs E.pos _ n (flat ic T n) hs (hrow.owns E) ⟨g1, 0, none⟩ m c1 (flat ic T' m) hx (flat_len E T' m) ?_ ?_ hm hn hbytes (Nat.zero_le _) _ rfl ?_
      · intro j v hv
        have hj := (List.getElem?_eq_some_iff.1 hv).1
        rw [flat_len E] at hj
        have hs := E.pos
        have hk : j = j / sz * sz + j % sz := by rw [Nat.mul_comm]; exact (Nat.div_add_mod j sz).symm
        have hjm : j / sz < m := (Nat.div_lt_iff_lt_mul hs).2 hj
        have hc : j % sz < sz := Nat.mod_lt _ hs
        rw [hk, flat_at E T' m _ _ hjm hc] at hv
        rw [Addr.add_mid]
        exact hr1.cell hjm hv (by omega)
      · intro u hu
        unfold flat at hu
        obtain ⟨j, _, hj⟩ := List.mem_flatMap.1 hu
        exact E.one _ u hj
      · intro g cap w' h1 h2 h3 h4
        refine h g cap w' (Row.of_owns E ?_) (Only.grown h2 (Or.inl rfl)) ?_
        · have : flat ic (fun j => if j < n then T j else T' (j - n)) (n + m) = flat ic T n ++ flat ic T' m := by
            have key : ∀ m, flat ic (fun j => if j < n then T j else T' (j - n)) (n + m) = flat ic T n ++ flat ic T' m := by
              intro m
              induction m with
              | zero => rw [Nat.add_zero, flat_ext (T' := fun j => if j < n then T j else T' (j - n)) (T := T) (fun j hj => if_pos hj)]; simp [flat]
              | succ m ih =>
                rw [← Nat.add_assoc, flat_succ, flat_succ, ih, if_neg (by omega), show n + m - n = m by omega, List.append_assoc]
            exact key m
          rw [this]; exact h1
        · rcases h3 with h3 | h3
          · simp [Value.ownBlock] at h3; exact Or.inl h3.symm
          · exact Or.inr (by omega)
/-- A slice's beginning. -/
theorem wpList_upto {P : Program} {w : World} {ops : Array Oper} {rest : List Oper} {o : Oper} {act : Act} {Q : Exit → Act → World → Prop} (hg : o.guard = none) (x h : Operand) (t : TypeId) (hop : o.op = Op.slice t x none (some h) none)
    (e : TypeId) (i : TypeInfo) (ht : P.underlying t = some (.slice e)) (hi : P.info? e = some i) (A : Option Addr) (k c b : Nat) (kl : IntKind) (L : Int) (hx : act.eval x = .slice A k c) (hl : act.eval h = .int kl L) (hL : L = (b : Int)) (hb : b ≤ c) (hz : b = 0 → c = 0 → True)
    (hK : ∀ A', Hid (A' = A ∨ (b = 0 ∧ c = 0)) → wpList P ops Q rest (act.put o.dst (.slice A' b c)) w) : wpList P ops Q (o :: rest) act w := by
  subst hL
  have he : P.elem t = e := by simp [Program.elem, ht]
  have ht' : P.underlying t = some (.slice (P.elem t)) := by rw [he]; exact ht
  have hr : (Instr.slice t (.slice A k c) none (some (.int kl (b : Int))) none).run P w = .ok (.slice (if c = 0 then A else A.map (·.add 0)) b c) w := by
    rw [run_slice_h (P := P) w t A k c ht' kl (b : Int) (by omega) (by omega), he]
    simp [sizeOf, typeInfo, hi, sliced, Result.andThen]
  refine wpList_plain hg fun K hK' => ?_
  unfold Oper.wp
  simp only [execOp, hop, Option.map_some, Option.map_none, hx, hl, run_sliceAt_slice (P := P) w t _ _ _ _ ht', hr, Sem.run_bind, Result.andThen, Sem.run_pure]
  refine hK' _ _ (hK _ ?_)
  show _ ∨ _
  left
  split
  · rfl
  · cases A with
    | none => rfl
    | some a => show some (a.add 0) = some a; simp [Addr.add]

/-! The answer, by the page's words. -/
def evF (m : Int) : Ev := ⟨2, 0, 0, 0, 0, 0, m, 0, 0, 0⟩
def evH (z : Int) : Ev := ⟨3, 0, 0, z, 0, 0, 0, 0, 0, 0⟩
def ev0 : Ev := ⟨0, 0, 0, 0, 0, 0, 0, 0, 0, 0⟩
def an0' : An := ⟨0, 0, 0, 0⟩
def bt (i : Int) : Cmd := (true, i, 0, 0)
theorem rightF {m : Int} (h0 : 0 ≤ m) (h1 : m ≤ 2147483647) : right (evF m) := ⟨(by decide : (0 : Int) ≤ 2), (by decide : (2 : Int) ≤ 9), by intro x hx; simp [nums, evF] at hx; omega, by simp [mk, nums, evF, nth]⟩
theorem rightH {m : Int} (h0 : 0 ≤ m) (h1 : m ≤ 2147483647) : right (evH m) := ⟨(by decide : (0 : Int) ≤ 3), (by decide : (3 : Int) ≤ 9), by intro x hx; simp [nums, evH] at hx; omega, by simp [mk, nums, evH, nth]⟩
theorem right0 : right ev0 := ⟨by decide, by decide, by intro x hx; simp [nums, ev0] at hx, by simp [mk, nums, ev0]⟩
theorem ok0' : okA an0' := ok0
/-- So many sandboxes, the newest one last. -/
def bs : Nat → List Bv
  | 0 => []
  | k + 1 => bs k ++ [⟨(k : Int) + 1, 0, 0, true, false⟩]
def Wk (m z : Int) (k : Nat) : Wd := ⟨bs k, upI (fun _ => 0) 0 z, updZ (fun _ => none) 0 (some m), (k : Int) + 1⟩
theorem Wk_me (m z : Int) (k : Nat) : (Wk m z k).me 0 = some m := by show updZ (fun _ => none) 0 (some m) 0 = _; exact updZ_same _ _ _
theorem Wk_sz (m z : Int) (k : Nat) : (Wk m z k).sz 0 = z := by show upI (fun _ => 0) 0 z 0 = _; exact upI_same _ _ _
theorem usd_bs (m z : Int) (k : Nat) : usd (Wk m z k).me (bs k) 0 = (k : Int) * m := by
  induction k with
  | zero => simp [bs, usd]
  | succ k ih =>
    rw [bs, usd_app, show (Wk m z (k + 1)).me = (Wk m z k).me from rfl, ih]
    simp only [usd]
    rw [Wk_me]
    simp [Int.add_mul]
theorem stp_go0 {W : Wd} {e : Ev} {cs : List Cmd} (h1 : right e) (h : e.k ≠ 6) : stp W (e, an0', cs) = match hap W e with
    | none => none
    | some W1 => cmds W1 cs := by
  rw [stp_go h1 ok0' (by decide) (fun q => q.elim (fun q => q.2 rfl) (fun q => h q.1))]
  cases hap W e with
  | none => rfl
  | some W1 => dsimp only; cases cmds W1 cs with
    | none => rfl
    | some W2 => exact clo_not6 h
theorem hap_0 (W : Wd) : hap W ev0 = some W := by unfold hap; simp [ev0]
theorem st_F (m : Int) (h0 : 0 ≤ m) (h1 : m ≤ 2147483647) : stp Wd.zero (evF m, an0', []) = some { Wd.zero with me := updZ (fun _ => none) 0 (some m) } := by
  rw [stp_go0 (rightF h0 h1) (show (2 : Int) ≠ 6 by decide)]; rfl
theorem st_H (m z : Int) (h0 : 0 ≤ z) (h1 : z ≤ 2147483647) : stp { Wd.zero with me := updZ (fun _ => none) 0 (some m) } (evH z, an0', []) = some (Wk m z 0) := by
  rw [stp_go0 (rightH h0 h1) (show (3 : Int) ≠ 6 by decide)]; rfl
theorem st_B (m z : Int) (k : Nat) : stp (Wk m z k) (ev0, an0', [bt ((k : Int) + 1)]) = if ((k : Int) + 1) * m ≤ z then some (Wk m z (k + 1)) else none := by
  rw [stp_go0 right0 (by decide), hap_0]
  show cmds _ _ = _
  rw [cmds]
  have hc : cmd (Wk m z k) (bt ((k : Int) + 1)) = if ((k : Int) + 1) * m ≤ z then some (Wk m z (k + 1)) else none := by
    unfold cmd
    rw [if_pos (show (bt ((k : Int) + 1)).1 = true from rfl), show (Wk m z k).me (bt ((k : Int) + 1)).2.2.1 = some m from Wk_me m z k]
    dsimp only
    rw [show usd (Wk m z k).me (Wk m z k).L (bt ((k : Int) + 1)).2.2.2 = (k : Int) * m from usd_bs m z k, show (Wk m z k).sz (bt ((k : Int) + 1)).2.2.2 = z from Wk_sz m z k, show (k : Int) * m + m = ((k : Int) + 1) * m by rw [Int.add_mul]; simp]
    by_cases q : ((k : Int) + 1) * m ≤ z
    · rw [if_pos ⟨rfl, q⟩, if_pos q]; rfl
    · rw [if_neg (fun t => q t.2), if_neg q]
  rw [hc]
  by_cases q : ((k : Int) + 1) * m ≤ z
  · rw [if_pos q]; rfl
  · rw [if_neg q]
theorem run_B (m z : Int) : ∀ (n k i : Nat), (∀ j, k ≤ j → j < k + n → ((j : Int) + 1) * m ≤ z) → fst_ (Wk m z k) i ((List.range n).map (fun j => (ev0, an0', [bt (((k + j : Nat) : Int) + 1)]))) = -1
  | 0, _, _, _ => rfl
  | n + 1, k, i, h => by
    rw [List.range_succ_eq_map, List.map_cons, fst_, show (((k + 0 : Nat) : Int) + 1) = (k : Int) + 1 from rfl, st_B, if_pos (h k (Nat.le_refl _) (by omega))]
    dsimp only
    rw [List.map_map]
    have := run_B m z n (k + 1) (i + 1) (fun j h1 h2 => h j (by omega) (by omega))
    rw [← this]
    congr 1
    apply List.map_congr_left
    intro j _
    simp [Function.comp, Nat.add_comm, Nat.add_left_comm]
theorem stop_B (m z : Int) : ∀ (n k i q : Nat), k ≤ q → q < k + n → (∀ j, k ≤ j → j < q → ((j : Int) + 1) * m ≤ z) → z < ((q : Int) + 1) * m → fst_ (Wk m z k) i ((List.range n).map (fun j => (ev0, an0', [bt (((k + j : Nat) : Int) + 1)]))) = ((i + (q - k) : Nat) : Int)
  | 0, k, _, q, h1, h2, _, _ => by omega
  | n + 1, k, i, q, h1, h2, h, hz => by
    rw [List.range_succ_eq_map, List.map_cons, fst_, show (((k + 0 : Nat) : Int) + 1) = (k : Int) + 1 from rfl, st_B]
    by_cases e : k = q
    · subst e
      rw [if_neg (by omega)]
      simp
    · rw [if_pos (h k (Nat.le_refl _) (by omega))]
      dsimp only
      rw [List.map_map]
      have := stop_B m z n (k + 1) (i + 1) q (by omega) (by omega) (fun j h1 h2 => h j (by omega) (by omega)) hz
      rw [show i + 1 + (q - (k + 1)) = i + (q - k) by omega] at this
      rw [← this]
      congr 1
      apply List.map_congr_left
      intro j _
      simp [Function.comp, Nat.add_comm, Nat.add_left_comm]
/-- The list that the law makes. -/
def ls (m z : Int) (n : Nat) : List Stp := (evF m, an0', []) :: (evH z, an0', []) :: (List.range n).map (fun j : Nat => (ev0, an0', [bt ((j : Int) + 1)]))
theorem fst_ls (m z : Int) (n : Nat) (hm : 0 < m) (hm1 : m ≤ 2147483647) (hz : 0 ≤ z) (hz1 : z ≤ 2147483647) : fst_ Wd.zero 0 (ls m z n) = if z < (n : Int) * m then 2 + z / m else -1 := by
  unfold ls
  rw [fst_, st_F m (by omega) hm1]
  dsimp only
  rw [fst_, st_H m z hz hz1]
  dsimp only
  have hq := Int.mul_ediv_add_emod z m
  have hr0 := Int.emod_nonneg z (show m ≠ 0 by omega)
  have hr1 := Int.emod_lt_of_pos z hm
  have hd0 : 0 ≤ z / m := Int.ediv_nonneg hz (by omega)
  by_cases h : z < (n : Int) * m
  · rw [if_pos h]
    obtain ⟨q, hqq⟩ : ∃ q : Nat, z / m = q := ⟨(z / m).toNat, by omega⟩
    rw [hqq] at hq hd0 ⊢
    have hqn : q < n := by
      apply Classical.byContradiction
      intro t
      have : (n : Int) * m ≤ (q : Int) * m := Int.mul_le_mul_of_nonneg_right (by omega) (by omega)
      rw [Int.mul_comm m] at hq
      omega
    have := stop_B m z n 0 (0 + 1 + 1) q (Nat.zero_le _) (by omega) (fun j _ hj => by
      have : ((j : Int) + 1) * m ≤ (q : Int) * m := Int.mul_le_mul_of_nonneg_right (by omega) (by omega)
      rw [Int.mul_comm m] at hq
      omega) (by rw [Int.add_mul, Int.mul_comm (q : Int)]; omega)
    simp only [Nat.zero_add] at this
    rw [show (Wk m z 0) = _ from rfl] at this
    rw [this]
    omega
  · rw [if_neg h]
    have := run_B m z n 0 (0 + 1 + 1) (fun j _ hj => by
      have : ((j : Int) + 1) * m ≤ (n : Int) * m := Int.mul_le_mul_of_nonneg_right (by omega) (by omega)
      omega)
    simp only [Nat.zero_add] at this
    exact this
/-- One boot of what isn't known. -/
theorem fst_other (m z : Int) (hm : 0 < m) (hm1 : m ≤ 2147483647) (hz : 0 ≤ z) (hz1 : z ≤ 2147483647) : fst_ Wd.zero 0 [(evF m, an0', []), (evH z, an0', []), (ev0, an0', [(true, 1, 1, 0)])] = 2 := by
  rw [fst_, st_F m (by omega) hm1]
  dsimp only
  rw [fst_, st_H m z hz hz1]
  dsimp only
  rw [fst_, stp_go0 right0 (by decide), hap_0]
  have : cmd (Wk m z 0) (true, 1, 1, 0) = none := by
    unfold cmd; rw [if_pos rfl]; rfl
  dsimp only
  rw [cmds, this]
  rfl
theorem fst_far (m z : Int) (hm : 0 < m) (hm1 : m ≤ 2147483647) (hz : 0 ≤ z) (hz1 : z ≤ 2147483647) : fst_ Wd.zero 0 [(evF m, an0', []), (evH z, an0', []), (ev0, an0', [(true, 1, 0, 1)])] = 2 := by
  rw [fst_, st_F m (by omega) hm1]
  dsimp only
  rw [fst_, st_H m z hz hz1]
  dsimp only
  rw [fst_, stp_go0 right0 (by decide), hap_0]
  have : cmd (Wk m z 0) (true, 1, 0, 1) = none := by
    unfold cmd; rw [if_pos rfl]; dsimp only; rw [Wk_me]
    dsimp only
    rw [if_neg]
    rintro ⟨_, q⟩
    have h1 : (Wk m z 0).sz 1 = 0 := rfl
    have h2 : usd (Wk m z 0).me (Wk m z 0).L 1 = 0 := rfl
    rw [h1, h2] at q
    omega
  dsimp only
  rw [cmds, this]
  rfl
end Go.Proofs.Ytgpookphacdgoaa.W.U
