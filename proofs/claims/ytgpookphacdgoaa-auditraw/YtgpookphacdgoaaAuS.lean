/- Package audit, plain: how a view stands to what is known. -/
import Derived.Test.YtgpookphacdgoaaAuC
namespace Go.Proofs.Ytgpookphacdgoaa.W.U
open Go.RowKit Go.Proofs.Ytgpookphacdgoaa.W

theorem wfK {x : Int} (h : -9223372036854775808 ≤ x) (k : x ≤ 9223372036854775807) : (Lit.int .i64 x).wf = true := Go.WalkArith.wf_i64 ⟨h, k⟩
theorem setH_get (s : Vs) (h : Int) (x : Hv) (z : Int) : (s.setH h x).ho.a z = if z = h then some x else s.ho.a z := rfl
theorem setF_get (s : Vs) (f : Int) (g : Fv) (z : Int) : (s.setF f g).fu.a z = if z = f then some g else s.fu.a z := rfl
theorem setH_n {s : Vs} {h : Int} {x y : Hv} (e : s.ho.a h = some y) : (s.setH h x).ho.n = s.ho.n := by show (if (s.ho.a h).isSome then _ else _) = _; rw [e]; rfl
theorem setF_n {s : Vs} {f : Int} {x y : Fv} (e : s.fu.a f = some y) : (s.setF f x).fu.n = s.fu.n := by show (if (s.fu.a f).isSome then _ else _) = _; rw [e]; rfl
theorem Tb.set_n {α : Type} (m : Tb α) (i : Int) (v : α) : (m.set i v).n ≤ m.n + 1 := by
  show (if (m.a i).isSome then _ else _) ≤ _; split <;> omega
theorem Tb.del_n {α : Type} (m : Tb α) (i : Int) : (m.del i).n ≤ m.n := by
  show (if (m.a i).isSome then _ else _) ≤ _; split <;> omega
theorem Tb.set_get {α : Type} (m : Tb α) (i : Int) (v : α) (z : Int) : (m.set i v).a z = if z = i then some v else m.a z := rfl
theorem Tb.del_get {α : Type} (m : Tb α) (i : Int) (z : Int) : (m.del i).a z = if z = i then none else m.a z := rfl
theorem none_on {h : Int} (me : Int → Option Int) : ∀ {L : List Bv}, (∀ b ∈ L, b.ho ≠ h) → usd me L h = 0 ∧ ∀ f, cnt L f h = 0
  | [], _ => ⟨rfl, fun _ => rfl⟩
  | c :: r, q => by
    obtain ⟨h1, h2⟩ := none_on me (fun b hb => q b (List.mem_cons_of_mem _ hb))
    have hc := q c List.mem_cons_self
    refine ⟨by rw [usd, if_neg hc, h1]; rfl, fun f => by rw [cnt, if_neg (fun e => hc e.2), h2 f]⟩
theorem cnt_pos {b : Bv} : ∀ {L : List Bv}, b ∈ L → 0 < cnt L b.fn b.ho
  | c :: r, h => by
    rw [cnt]
    rcases List.mem_cons.1 h with rfl | h
    · rw [if_pos ⟨rfl, rfl⟩]; omega
    · have := cnt_pos h; omega

/-- A view that tells what is known. -/
structure Sim (s : Vs) (W : Wd) (N : Nat) : Prop where
  gd : Gd W N
  last : s.last + 1 = W.nx
  bx : ∀ i, s.bx i = fnd W.L i
  mx : ∀ i, (s.mx.a i).isSome = (fnd W.L i).isSome
  fu : ∀ f, (s.fu.a f).map (·.mem) = W.me f
  on : ∀ f g h, s.fu.a f = some g → g.on.a h = if cnt W.L f h = 0 then none else some (cnt W.L f h : Int)
  sz : ∀ h, ((s.ho.a h).map (·.size)).getD 0 = W.sz h
  us : ∀ h x, s.ho.a h = some x → x.used = usd W.me W.L h
  bo : ∀ h x i, s.ho.a h = some x → ((x.bo.a i).isSome = true ↔ ∃ b, fnd W.L i = some b ∧ b.ho = h)
  pr : ∀ b ∈ W.L, (s.ho.a b.ho).isSome
  nf : s.fu.n ≤ N
  nh : s.ho.n ≤ N
  nm : s.mx.n ≤ N
  no : ∀ f g, s.fu.a f = some g → g.on.n ≤ N
  nb : ∀ h x, s.ho.a h = some x → x.bo.n ≤ N
theorem Sim.zero : Sim .zero .zero 0 :=
  ⟨Gd.zero, rfl, fun _ => rfl, fun _ => rfl, fun _ => rfl, fun f g h e => (by cases e), fun _ => rfl, fun h x e => (by cases e), fun h x i e => (by cases e), fun b h => (by cases h), Nat.le_refl _, Nat.le_refl _, Nat.le_refl _, fun f g e => (by cases e), fun f g e => (by cases e)⟩
theorem Sim.up {s : Vs} {W : Wd} {N M : Nat} (S : Sim s W N) (h : N ≤ M) : Sim s W M :=
  { S with gd := S.gd.up h, nf := Nat.le_trans S.nf h, nh := Nat.le_trans S.nh h, nm := Nat.le_trans S.nm h, no := fun f g e => Nat.le_trans (S.no f g e) h, nb := fun f g e => Nat.le_trans (S.nb f g e) h }
section
variable {s : Vs} {W : Wd} {N : Nat}
theorem Sim.fn (S : Sim s W N) {f m : Int} (h : W.me f = some m) : ∃ g, s.fu.a f = some g ∧ g.mem = m ∧ 0 ≤ m ∧ m ≤ 2147483647 := by
  have := S.fu f
  rw [h] at this
  cases q : s.fu.a f with
  | none => rw [q] at this; cases this
  | some g => rw [q] at this; exact ⟨g, rfl, by simpa using this, S.gd.mem f m h⟩
theorem Sim.fn0 (S : Sim s W N) {f : Int} (h : W.me f = none) : s.fu.a f = none := by
  have := S.fu f
  rw [h] at this
  cases q : s.fu.a f with
  | none => rfl
  | some g => rw [q] at this; cases this
theorem Sim.me (S : Sim s W N) {f : Int} {g : Fv} (h : s.fu.a f = some g) : W.me f = some g.mem := by
  rw [← S.fu f, h]; rfl
/-- All that is to be known of a sandbox that is there. -/
theorem Sim.box (S : Sim s W N) {i : Int} {b : Bv} (h : fnd W.L i = some b) : ∃ g x, s.bx i = some b ∧ b.id = i ∧ s.mx.a i = some () ∧ s.fu.a b.fn = some g ∧ s.ho.a b.ho = some x ∧ g.on.a b.ho = some (cnt W.L b.fn b.ho : Int) ∧ 0 < cnt W.L b.fn b.ho ∧ x.bo.a i = some () := by
  obtain ⟨hb, hi⟩ := fnd_mem h
  obtain ⟨m, hm⟩ := Option.isSome_iff_exists.1 (S.gd.fns b hb)
  obtain ⟨g, hg, _⟩ := S.fn hm
  obtain ⟨x, hx⟩ := Option.isSome_iff_exists.1 (S.pr b hb)
  have hc := cnt_pos hb
  refine ⟨g, x, by rw [S.bx]; exact h, hi, ?_, hg, hx, by rw [S.on _ _ _ hg, if_neg (by omega)], hc, ?_⟩
  · have := S.mx i
    rw [h] at this
    obtain ⟨u, hu⟩ := Option.isSome_iff_exists.1 this
    exact hu
  · obtain ⟨u, hu⟩ := Option.isSome_iff_exists.1 ((S.bo _ _ i hx).2 ⟨b, h, rfl⟩)
    exact hu
theorem Sim.wf (S : Sim s W N) (hN : N ≤ 1048576) {i : Int} {b : Bv} (h : fnd W.L i = some b) : (Lit.int .i64 i).wf = true ∧ (Lit.int .i64 b.fn).wf = true ∧ (Lit.int .i64 b.ho).wf = true := by
  obtain ⟨hb, rfl⟩ := fnd_mem h
  have h1 := S.gd.ids b hb
  have h2 := S.gd.nxN
  refine ⟨?_, S.gd.wfs b hb⟩
  exact wfK (by omega) (by omega)
theorem Sim.usB (S : Sim s W N) (hN : N ≤ 1048576) {h : Int} {x : Hv} (e : s.ho.a h = some x) : 0 ≤ x.used ∧ x.used ≤ 2251799813685248 := by
  rw [S.us h x e]; exact S.gd.usd hN h
theorem Sim.szB (S : Sim s W N) {h : Int} {x : Hv} (e : s.ho.a h = some x) : W.sz h = x.size ∧ 0 ≤ x.size ∧ x.size ≤ 2147483647 := by
  have h1 := S.sz h
  rw [e] at h1
  have h2 := S.gd.szs h
  exact ⟨h1.symm, by rw [show x.size = W.sz h from h1]; exact h2⟩
/-- A host of which nothing was known. -/
theorem Sim.host (S : Sim s W N) {n : Int} (e : s.ho.a n = none) : Sim (s.setH n ⟨0, 0, .nil⟩) W (N + 1) := by
  have hno : ∀ b ∈ W.L, b.ho ≠ n := fun b hb q => by have := S.pr b hb; rw [q, e] at this; cases this
  obtain ⟨h1, h2⟩ := none_on W.me hno
  refine { S.up (Nat.le_succ N) with sz := fun h => ?_, us := fun h x q => ?_, bo := fun h x i q => ?_, pr := fun b hb => ?_, nh := ?_, nb := fun h x q => ?_ }
  · rw [setH_get]; split
    · rename_i q; rw [q, ← S.sz n, e]; rfl
    · exact S.sz h
  · rw [setH_get] at q; split at q
    · rename_i r; cases q; rw [r, h1]
    · exact S.us h x q
  · rw [setH_get] at q; split at q
    · rename_i r; cases q
      refine ⟨fun t => (by cases t), fun ⟨b, hb, hh⟩ => absurd (hh.trans r) (hno b (fnd_mem hb).1)⟩
    · exact S.bo h x i q
  · rw [setH_get]; split
    · rfl
    · exact S.pr b hb
  · have := Tb.set_n s.ho n ⟨0, 0, .nil⟩; have := S.nh; show (s.ho.set n _).n ≤ _; omega
  · rw [setH_get] at q; split at q
    · cases q; exact Nat.zero_le _
    · have := S.nb h x q; omega
/-- A sandbox goes. -/
theorem Sim.drop (S : Sim s W N) {i : Int} {b : Bv} (h : fnd W.L i = some b) {g : Fv} {x : Hv} (eg : s.fu.a b.fn = some g) (ex : s.ho.a b.ho = some x) {on : Tb Int}
    (hon : ∀ z, on.a z = if z = b.ho then (if cnt W.L b.fn b.ho = 1 then none else some ((cnt W.L b.fn b.ho : Int) - 1)) else g.on.a z) (hn : on.n ≤ N) :
    Sim { (s.setF b.fn { g with on := on }).setH b.ho { size := x.size, used := x.used - g.mem, bo := x.bo.del i } with mx := s.mx.del i, bx := updZ s.bx i none } { W with L := drp W.L i } N := by
  obtain ⟨hb, hi⟩ := fnd_mem h
  have hfd : ∀ j, fnd (drp W.L i) j = if j = i then none else fnd W.L j := fun j => by
    split
    · rename_i q; rw [q]; exact fnd_drp_same S.gd.dis i
    · rename_i q; exact fnd_drp_ne q _
  refine ⟨S.gd.drp i, S.last, fun j => ?_, fun j => ?_, fun f => ?_, fun f g' h' e => ?_, fun h' => ?_, fun h' x' e => ?_, fun h' x' j e => ?_, fun b' hb' => ?_, ?_, ?_, ?_, fun f g' e => ?_, fun h' x' e => ?_⟩
  · show updZ s.bx i none j = _
    rw [hfd]; unfold updZ; split
    · rfl
    · exact S.bx j
  · show ((s.mx.del i).a j).isSome = _
    rw [hfd, Tb.del_get]; split
    · rfl
    · exact S.mx j
  · show ((s.setF b.fn _).fu.a f).map _ = W.me f
    rw [setF_get]; split
    · rename_i q; rw [q, S.me eg]; rfl
    · exact S.fu f
  · replace e : (s.setF b.fn { g with on := on }).fu.a f = some g' := e
    show _ = if cnt (drp W.L i) f h' = 0 then none else some (cnt (drp W.L i) f h' : Int)
    have hcd := cnt_drp (f := f) (h := h') h
    rw [setF_get] at e; split at e
    · rename_i q; cases e
      rw [hon]
      by_cases r : h' = b.ho
      · rw [if_pos r]
        rw [if_pos ⟨q.symm, r.symm⟩] at hcd
        rw [q, r] at hcd ⊢
        have h2 := cnt_pos hb
        by_cases z : cnt W.L b.fn b.ho = 1
        · rw [if_pos z, if_pos (by omega)]
        · rw [if_neg z, if_neg (by omega), hcd]; congr 1; omega
      · rw [if_neg r]
        rw [if_neg (fun t => r t.2.symm)] at hcd
        rw [S.on _ _ _ eg, ← q, hcd]; rfl
    · rename_i q
      rw [if_neg (fun t => q t.1.symm)] at hcd
      rw [S.on _ _ _ e, hcd]; rfl
  · show ((((s.setF b.fn _).setH b.ho _).ho.a h').map _).getD 0 = W.sz h'
    rw [setH_get]; split
    · rename_i q; rw [q, ← S.sz b.ho, ex]; rfl
    · exact S.sz h'
  · replace e : ((s.setF b.fn { g with on := on }).setH b.ho { size := x.size, used := x.used - g.mem, bo := x.bo.del i }).ho.a h' = some x' := e
    show _ = usd W.me (drp W.L i) h'
    rw [usd_drp h]
    rw [setH_get] at e; split at e
    · rename_i q; cases e
      rw [if_pos q.symm, S.me eg, q, ← S.us _ _ ex]; rfl
    · rename_i q
      rw [if_neg (fun t => q t.symm), S.us _ _ e]; omega
  · replace e : ((s.setF b.fn { g with on := on }).setH b.ho { size := x.size, used := x.used - g.mem, bo := x.bo.del i }).ho.a h' = some x' := e
    show _ ↔ ∃ b0, fnd (drp W.L i) j = some b0 ∧ b0.ho = h'
    rw [hfd]
    rw [setH_get] at e; split at e
    · rename_i q; cases e
      rw [show ({ size := x.size, used := x.used - g.mem, bo := x.bo.del i } : Hv).bo.a j = if j = i then none else x.bo.a j from rfl]
      split
      · simp
      · rw [q]; exact S.bo _ _ j ex
    · rename_i q
      rw [S.bo _ _ j e]
      split
      · rename_i r
        refine ⟨fun ⟨b0, h0, h1⟩ => ?_, fun ⟨b0, h0, _⟩ => by cases h0⟩
        rw [r, h] at h0; cases h0; exact absurd h1.symm q
      · rfl
  · show (((s.setF b.fn _).setH b.ho _).ho.a b'.ho).isSome
    rw [setH_get]; split
    · rfl
    · exact S.pr b' ((drp_sub i W.L).subset hb')
  · show (s.setF b.fn _).fu.n ≤ N
    rw [setF_n eg]; exact S.nf
  · show ((s.setF b.fn _).setH b.ho _).ho.n ≤ N
    rw [setH_n (s := s.setF b.fn _) ex]; exact S.nh
  · exact Nat.le_trans (Tb.del_n _ _) S.nm
  · replace e : (s.setF b.fn { g with on := on }).fu.a f = some g' := e
    rw [setF_get] at e; split at e
    · cases e; exact hn
    · exact S.no f g' e
  · replace e : ((s.setF b.fn { g with on := on }).setH b.ho { size := x.size, used := x.used - g.mem, bo := x.bo.del i }).ho.a h' = some x' := e
    rw [setH_get] at e; split at e
    · cases e; exact Nat.le_trans (Tb.del_n _ _) (S.nb _ _ ex)
    · exact S.nb h' x' e
/-- A sandbox boots. -/
theorem Sim.boot (S : Sim s W N) (hN : N ≤ 1048576) {c : Cmd} (hc : cwf c) {g : Fv} {x : Hv} (h1 : c.1 = true) (h2 : c.2.1 = W.nx) (eg : s.fu.a c.2.2.1 = some g) (ex : s.ho.a c.2.2.2 = some x) (hfit : usd W.me W.L c.2.2.2 + g.mem ≤ W.sz c.2.2.2) :
    Sim { ((({ s with last := c.2.1 } : Vs).setB ⟨c.2.1, c.2.2.1, c.2.2.2, true, false⟩).setF c.2.2.1 { g with on := g.on.set c.2.2.2 ((g.on.a c.2.2.2).getD 0 + 1) }).setH c.2.2.2 { size := x.size, used := x.used + g.mem, bo := x.bo.set c.2.1 () } with mx := s.mx.set c.2.1 () } (bootW W c) (N + 1) := by
  have hcmd : cmd W c = some (bootW W c) := by
    unfold cmd; rw [if_pos h1, S.me eg]; dsimp only; rw [if_pos ⟨h2, hfit⟩]
  have hG := S.gd.cmd hc hcmd
  obtain ⟨c1, i, f, h⟩ := c
  dsimp only at h1 h2 eg ex hfit hc hG ⊢
  subst h2
  have hni : fnd W.L W.nx = none := At.none (fun j b hb q => by
    have := S.gd.ids b (List.mem_of_getElem? hb); omega)
  have hfd : ∀ j, fnd (W.L ++ [⟨W.nx, f, h, true, false⟩]) j = if j = W.nx then some ⟨W.nx, f, h, true, false⟩ else fnd W.L j := fun j => by
    rw [fnd_app]
    by_cases q : j = W.nx
    · rw [if_pos q, q, hni]; simp [fnd]
    · rw [if_neg q]
      have : fnd [⟨W.nx, f, h, true, false⟩] j = none := by simp [fnd]; exact fun t => q t.symm
      rw [this]; cases fnd W.L j <;> rfl
  have hus : ∀ z, usd W.me (W.L ++ [⟨W.nx, f, h, true, false⟩]) z = usd W.me W.L z + (if h = z then g.mem else 0) := fun z => by
    rw [usd_app]; simp only [usd]; rw [S.me eg]; simp
  have hcn : ∀ f' z, cnt (W.L ++ [⟨W.nx, f, h, true, false⟩]) f' z = cnt W.L f' z + (if f = f' ∧ h = z then 1 else 0) := fun f' z => by
    rw [cnt_app]; simp only [cnt]; omega
  refine ⟨hG, rfl, fun j => ?_, fun j => ?_, fun f' => ?_, fun f' g' h' e => ?_, fun h' => ?_, fun h' x' e => ?_, fun h' x' j e => ?_, fun b' hb' => ?_, ?_, ?_, ?_, fun f' g' e => ?_, fun h' x' e => ?_⟩
  · show updZ s.bx W.nx _ j = fnd (W.L ++ [_]) j
    rw [hfd]; unfold updZ; split
    · rfl
    · exact S.bx j
  · show ((s.mx.set W.nx ()).a j).isSome = (fnd (W.L ++ [_]) j).isSome
    rw [hfd, Tb.set_get]; split
    · rfl
    · exact S.mx j
  · show ((s.fu.set f _).a f').map _ = W.me f'
    rw [Tb.set_get]; split
    · rename_i q; rw [q, S.me eg]; rfl
    · exact S.fu f'
  · replace e : (s.fu.set f { g with on := g.on.set h ((g.on.a h).getD 0 + 1) }).a f' = some g' := e
    show _ = if cnt (W.L ++ [_]) f' h' = 0 then none else some (cnt (W.L ++ [_]) f' h' : Int)
    have hk := hcn f' h'
    generalize cnt (W.L ++ [_]) f' h' = K at hk ⊢
    rw [Tb.set_get] at e; split at e
    · rename_i q; cases e
      rw [q] at hk
      rw [show ({ g with on := g.on.set h ((g.on.a h).getD 0 + 1) } : Fv).on.a h' = if h' = h then some ((g.on.a h).getD 0 + 1) else g.on.a h' from rfl]
      by_cases r : h' = h
      · rw [if_pos ⟨rfl, r.symm⟩, r] at hk
        rw [if_pos r, if_neg (by omega), hk, S.on _ _ _ eg]
        by_cases z : cnt W.L f h = 0
        · rw [if_pos z, z]; rfl
        · rw [if_neg z]; simp
      · rw [if_neg (fun t => r t.2.symm)] at hk
        rw [if_neg r, S.on _ _ _ eg, hk]; rfl
    · rename_i q
      rw [if_neg (fun t => q t.1.symm)] at hk
      rw [S.on _ _ _ e, hk]; rfl
  · show (((s.ho.set h _).a h').map _).getD 0 = W.sz h'
    rw [Tb.set_get]; split
    · rename_i q; rw [q, ← S.sz h, ex]; rfl
    · exact S.sz h'
  · replace e : (s.ho.set h { size := x.size, used := x.used + g.mem, bo := x.bo.set W.nx () }).a h' = some x' := e
    show _ = usd W.me (W.L ++ [_]) h'
    rw [hus]
    rw [Tb.set_get] at e; split at e
    · rename_i q; cases e
      rw [if_pos q.symm, q, ← S.us _ _ ex]
    · rename_i q
      rw [if_neg (fun t => q t.symm), S.us _ _ e]; omega
  · replace e : (s.ho.set h { size := x.size, used := x.used + g.mem, bo := x.bo.set W.nx () }).a h' = some x' := e
    show _ ↔ ∃ b0, fnd (W.L ++ [_]) j = some b0 ∧ b0.ho = h'
    rw [hfd]
    rw [Tb.set_get] at e; split at e
    · rename_i q; cases e
      rw [show ({ size := x.size, used := x.used + g.mem, bo := x.bo.set W.nx () } : Hv).bo.a j = if j = W.nx then some () else x.bo.a j from rfl]
      split
      · exact ⟨fun _ => ⟨_, rfl, q.symm⟩, fun _ => rfl⟩
      · rw [q]; exact S.bo _ _ j ex
    · rename_i q
      rw [S.bo _ _ j e]
      split
      · rename_i r
        rw [r, hni]
        refine ⟨fun ⟨b0, h0, _⟩ => (by cases h0), fun ⟨b0, h0, h1⟩ => ?_⟩
        cases h0; exact absurd h1.symm q
      · rfl
  · show ((s.ho.set h _).a b'.ho).isSome
    rw [Tb.set_get]; split
    · rfl
    · rename_i q
      rcases List.mem_append.1 hb' with hb' | hb'
      · exact S.pr b' hb'
      · obtain rfl := List.mem_singleton.1 hb'
        exact absurd rfl q
  · have := Tb.set_n s.fu f { g with on := g.on.set h ((g.on.a h).getD 0 + 1) }; have := S.nf; show (s.fu.set f _).n ≤ _; omega
  · have := Tb.set_n s.ho h { size := x.size, used := x.used + g.mem, bo := x.bo.set W.nx () }; have := S.nh; show (s.ho.set h _).n ≤ _; omega
  · have := Tb.set_n s.mx W.nx (); have := S.nm; show (s.mx.set _ _).n ≤ _; omega
  · replace e : (s.fu.set f { g with on := g.on.set h ((g.on.a h).getD 0 + 1) }).a f' = some g' := e
    rw [Tb.set_get] at e; split at e
    · cases e
      have := Tb.set_n g.on h ((g.on.a h).getD 0 + 1); have := S.no _ _ eg; show (g.on.set h _).n ≤ _; omega
    · have := S.no f' g' e; omega
  · replace e : (s.ho.set h { size := x.size, used := x.used + g.mem, bo := x.bo.set W.nx () }).a h' = some x' := e
    rw [Tb.set_get] at e; split at e
    · cases e
      have := Tb.set_n x.bo W.nx (); have := S.nb _ _ ex; show (x.bo.set _ _).n ≤ _; omega
    · have := S.nb h' x' e; omega
/-- What a sandbox does turns. -/
theorem Sim.turn (S : Sim s W N) {i : Int} {b : Bv} (h : fnd W.L i = some b) {f : Bv → Bv} (h1 : ∀ b, (f b).id = b.id) (h2 : ∀ b, (f b).fn = b.fn) (h3 : ∀ b, (f b).ho = b.ho) : Sim (s.setB (f b)) { W with L := up1 f i W.L } N := by
  obtain ⟨hb, hi⟩ := fnd_mem h
  have hfd := fun j => fnd_up1 h1 i j W.L
  have hs := fun z => (up1_same h2 h3 i W.me 0 z W.L).1
  have hcn := fun f' z => (up1_same h2 h3 i W.me f' z W.L).2.1
  refine ⟨S.gd.up1 h1 h2 h3 i, S.last, fun j => ?_, fun j => ?_, S.fu, fun f' g' h' e => ?_, S.sz, fun h' x' e => ?_, fun h' x' j e => ?_, fun b' hb' => ?_, S.nf, S.nh, S.nm, S.no, S.nb⟩
  · show updZ s.bx (f b).id _ j = fnd (up1 f i W.L) j
    rw [hfd, h1, hi]; unfold updZ; split
    · rename_i q; rw [q, h]; rfl
    · exact S.bx j
  · show _ = (fnd (up1 f i W.L) j).isSome
    rw [hfd, show (s.setB (f b)).mx = s.mx from rfl, S.mx j]; split
    · cases fnd W.L j <;> rfl
    · rfl
  · show _ = if cnt (up1 f i W.L) f' h' = 0 then none else some (cnt (up1 f i W.L) f' h' : Int)
    rw [hcn]; exact S.on f' g' h' e
  · show _ = usd W.me (up1 f i W.L) h'
    rw [hs]; exact S.us h' x' e
  · show _ ↔ ∃ b0, fnd (up1 f i W.L) j = some b0 ∧ b0.ho = h'
    rw [S.bo h' x' j e, hfd]
    split
    · rename_i q
      rw [q, h]
      refine ⟨fun ⟨b0, e0, e1⟩ => ?_, fun ⟨b0, e0, e1⟩ => ?_⟩
      · cases e0; exact ⟨f b, rfl, by rw [h3]; exact e1⟩
      · simp at e0; subst e0; exact ⟨b, rfl, by rw [← h3]; exact e1⟩
    · rfl
  · obtain ⟨c, hc, rfl | rfl⟩ := up1_mem hb'
    · exact S.pr _ hc
    · rw [h3]; exact S.pr _ hc
/-- A host's memory. -/
theorem Sim.size (S : Sim s W N) {e : Ev} (he : right e) (hk : e.k = 3) {x : Hv} (ex : s.ho.a e.n = some x) : Sim (s.setH e.n { x with size := e.s }) { W with sz := upI W.sz e.n e.s } N := by
  have hG : Gd { W with sz := upI W.sz e.n e.s } N := S.gd.hap he (by unfold hap; rw [if_pos hk])
  refine ⟨hG, S.last, S.bx, S.mx, S.fu, S.on, fun h' => ?_, fun h' x' q => ?_, fun h' x' j q => ?_, fun b hb => ?_, S.nf, ?_, S.nm, S.no, fun h' x' q => ?_⟩
  · rw [setH_get]; unfold upI; dsimp only; split
    · rfl
    · exact S.sz h'
  · rw [setH_get] at q; split at q
    · rename_i r; cases q; rw [r]; exact S.us _ x ex
    · exact S.us h' x' q
  · rw [setH_get] at q; split at q
    · rename_i r; cases q; rw [r]; exact S.bo _ x j ex
    · exact S.bo h' x' j q
  · rw [setH_get]; split
    · rfl
    · exact S.pr b hb
  · rw [setH_n ex]; exact S.nh
  · rw [setH_get] at q; split at q
    · cases q; exact S.nb _ x ex
    · exact S.nb h' x' q
/-- A function of which nothing was known: its memory is still told as none. -/
theorem Sim.fresh (S : Sim s W N) {f m : Int} (e : s.fu.a f = none) (hm : 0 ≤ m ∧ m ≤ 2147483647) : Sim (s.setF f ⟨m, .nil⟩) { W with me := updZ W.me f (some m) } (N + 1) := by
  have hW : W.me f = none := by rw [← S.fu f, e]; rfl
  have hno : ∀ b ∈ W.L, b.fn ≠ f := fun b hb q => by have := S.gd.fns b hb; rw [q, hW] at this; cases this
  have hc : ∀ h, cnt W.L f h = 0 := by
    intro h
    have : ∀ L : List Bv, (∀ b ∈ L, b.fn ≠ f) → cnt L f h = 0 := by
      intro L; induction L with
      | nil => intro _; rfl
      | cons c r ih => intro q; rw [cnt, if_neg (fun t => q c List.mem_cons_self t.1), ih (fun b hb => q b (List.mem_cons_of_mem _ hb))]
    exact this _ hno
  have hu : ∀ h, usd (updZ W.me f (some m)) W.L h = usd W.me W.L h := fun h => by rw [usd_me, hc]; simp
  refine ⟨?_, S.last, S.bx, S.mx, fun f' => ?_, fun f' g' h' q => ?_, S.sz, fun h' x' q => ?_, S.bo, S.pr, ?_, Nat.le_succ_of_le S.nh, Nat.le_succ_of_le S.nm, fun f' g' q => ?_, fun h' x' q => Nat.le_succ_of_le (S.nb h' x' q)⟩
  · refine { S.gd.up (Nat.le_succ N) with fns := fun b hb => ?_, mem := fun f' m' q => ?_ }
    · show (updZ W.me f (some m) b.fn).isSome
      rw [updZ_ne _ _ (hno b hb)]; exact S.gd.fns b hb
    · replace q : updZ W.me f (some m) f' = some m' := q
      unfold updZ at q; split at q
      · cases q; exact hm
      · exact S.gd.mem f' m' q
  · rw [setF_get]; show _ = updZ W.me f (some m) f'; unfold updZ; split
    · rfl
    · exact S.fu f'
  · rw [setF_get] at q; split at q
    · rename_i r; cases q
      show none = _
      rw [r, hc, if_pos rfl]
    · exact S.on f' g' h' q
  · show _ = usd (updZ W.me f (some m)) W.L h'
    rw [hu]; exact S.us h' x' q
  · have := Tb.set_n s.fu f ⟨m, .nil⟩; have := S.nf; show (s.fu.set f _).n ≤ _; omega
  · rw [setF_get] at q; split at q
    · cases q; exact Nat.zero_le _
    · exact Nat.le_succ_of_le (S.no f' g' q)
/-- A function's memory, with what its sandboxes use. -/
theorem Sim.memo (S : Sim s W N) {f m : Int} {g : Fv} (e : s.fu.a f = some g) (hm : 0 ≤ m ∧ m ≤ 2147483647) {ho : Int → Option Hv} (hho : ∀ h, ho h = (s.ho.a h).map (fun x => { x with used := x.used + ((g.on.a h).getD 0) * (m - g.mem) })) :
    Sim { s.setF f { g with mem := m } with ho := ⟨ho, s.ho.n⟩ } { W with me := updZ W.me f (some m) } N := by
  have hW := S.me e
  refine ⟨?_, S.last, S.bx, S.mx, fun f' => ?_, fun f' g' h' q => ?_, fun h' => ?_, fun h' x' q => ?_, fun h' x' j q => ?_, fun b hb => ?_, ?_, S.nh, S.nm, fun f' g' q => ?_, fun h' x' q => ?_⟩
  · refine { S.gd with fns := fun b hb => ?_, mem := fun f' m' q => ?_ }
    · show (updZ W.me f (some m) b.fn).isSome
      unfold updZ; split
      · rfl
      · exact S.gd.fns b hb
    · replace q : updZ W.me f (some m) f' = some m' := q
      unfold updZ at q; split at q
      · cases q; exact hm
      · exact S.gd.mem f' m' q
  · show ((s.setF f _).fu.a f').map _ = updZ W.me f (some m) f'
    rw [setF_get]; unfold updZ; split
    · rfl
    · exact S.fu f'
  · replace q : (s.setF f { g with mem := m }).fu.a f' = some g' := q
    rw [setF_get] at q; split at q
    · rename_i r; cases q; rw [r]; exact S.on _ g h' e
    · exact S.on f' g' h' q
  · show ((ho h').map _).getD 0 = W.sz h'
    rw [hho, ← S.sz h']; cases s.ho.a h' <;> rfl
  · replace q : ho h' = some x' := q
    show _ = usd (updZ W.me f (some m)) W.L h'
    rw [hho] at q
    cases r : s.ho.a h' with
    | none => rw [r] at q; cases q
    | some x =>
      rw [r] at q; cases q
      rw [usd_me, hW, ← S.us _ _ r, S.on _ _ h' e]
      simp only [Option.getD_some]
      split
      · rename_i z; rw [z]; simp
      · simp
  · replace q : ho h' = some x' := q
    rw [hho] at q
    cases r : s.ho.a h' with
    | none => rw [r] at q; cases q
    | some x => rw [r] at q; cases q; exact S.bo _ x j r
  · show (ho b.ho).isSome
    rw [hho]; have := S.pr b hb; cases r : s.ho.a b.ho with
    | none => rw [r] at this; cases this
    | some x => rfl
  · show (s.setF f _).fu.n ≤ N
    rw [setF_n e]; exact S.nf
  · replace q : (s.setF f { g with mem := m }).fu.a f' = some g' := q
    rw [setF_get] at q; split at q
    · cases q; exact S.no _ g e
    · exact S.no f' g' q
  · replace q : ho h' = some x' := q
    rw [hho] at q
    cases r : s.ho.a h' with
    | none => rw [r] at q; cases q
    | some x => rw [r] at q; cases q; exact S.nb _ x r
/-- A host of which nothing is known any more. -/
theorem Sim.gone (S : Sim s W N) {n : Int} (h : ∀ b ∈ W.L, b.ho ≠ n) : Sim { s with ho := s.ho.del n } { W with sz := upI W.sz n 0 } N := by
  refine ⟨{ S.gd with szs := fun z => ?_ }, S.last, S.bx, S.mx, S.fu, S.on, fun h' => ?_, fun h' x' q => ?_, fun h' x' j q => ?_, fun b hb => ?_, S.nf, Nat.le_trans (Tb.del_n _ _) S.nh, S.nm, S.no, fun h' x' q => ?_⟩
  · show 0 ≤ upI W.sz n 0 z ∧ upI W.sz n 0 z ≤ 2147483647
    unfold upI; split
    · omega
    · exact S.gd.szs z
  · show (((s.ho.del n).a h').map _).getD 0 = upI W.sz n 0 h'
    rw [Tb.del_get]; unfold upI; split
    · rfl
    · exact S.sz h'
  · replace q : (s.ho.del n).a h' = some x' := q
    rw [Tb.del_get] at q; split at q
    · cases q
    · exact S.us h' x' q
  · replace q : (s.ho.del n).a h' = some x' := q
    rw [Tb.del_get] at q; split at q
    · cases q
    · exact S.bo h' x' j q
  · show ((s.ho.del n).a b.ho).isSome
    rw [Tb.del_get, if_neg (h b hb)]; exact S.pr b hb
  · replace q : (s.ho.del n).a h' = some x' := q
    rw [Tb.del_get] at q; split at q
    · cases q
    · exact S.nb h' x' q
end
end Go.Proofs.Ytgpookphacdgoaa.W.U
