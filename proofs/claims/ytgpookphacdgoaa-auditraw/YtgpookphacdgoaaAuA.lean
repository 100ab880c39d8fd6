/- Package audit: what is known, in memory: which block is whose, and what one turn leaves. -/
import Derived.Test.YtgpookphacdgoaaRows
import Derived.Test.YtgpookphacdgoaaAuM
import Derived.Test.YtgpookphacdgoaaPrt
import Derived.Test.YtgpookphacdgoaaRngI
import Derived.BigRegion
namespace Go.Proofs.Ytgpookphacdgoaa.W.U
open Go.RowKit Go.Maps Go.ChangeMaps Go.MapKept Go.Proofs.Ytgpookphacdgoaa.W

/-- What is kept by number, and how many. -/
structure Tb (α : Type) where
  a : Int → Option α
  n : Nat
def Tb.nil {α : Type} : Tb α := ⟨fun _ => none, 0⟩
def Tb.set {α : Type} (m : Tb α) (i : Int) (v : α) : Tb α := ⟨updZ m.a i (some v), if (m.a i).isSome then m.n else m.n + 1⟩
def Tb.del {α : Type} (m : Tb α) (i : Int) : Tb α := ⟨updZ m.a i none, if (m.a i).isSome then m.n - 1 else m.n⟩
theorem Tb.set_at {α : Type} (m : Tb α) (i : Int) (v : α) : (m.set i v).a i = some v := updZ_same _ _ _
theorem Tb.set_ne {α : Type} (m : Tb α) {i j : Int} (v : α) (h : j ≠ i) : (m.set i v).a j = m.a j := updZ_ne _ _ h
theorem Tb.del_at {α : Type} (m : Tb α) (i : Int) : (m.del i).a i = none := updZ_same _ _ _
theorem Tb.del_ne {α : Type} (m : Tb α) {i j : Int} (h : j ≠ i) : (m.del i).a j = m.a j := updZ_ne _ _ h
structure Fv where
  mem : Int
  on : Tb Int
structure Hv where
  size : Int
  used : Int
  bo : Tb Unit
structure Vs where
  last : Int
  fu : Tb Fv
  ho : Tb Hv
  mx : Tb Unit
  bx : Int → Option Bv
def Vs.zero : Vs := ⟨0, .nil, .nil, .nil, fun _ => none⟩
def Vs.setF (s : Vs) (f : Int) (g : Fv) : Vs := { s with fu := s.fu.set f g }
def Vs.setH (s : Vs) (h : Int) (x : Hv) : Vs := { s with ho := s.ho.set h x }
def Vs.setB (s : Vs) (b : Bv) : Vs := { s with bx := updZ s.bx b.id (some b) }

/-- Whose a block is. -/
inductive Tag where
  | vw
  | mf
  | mh
  | mx
  | fb (f : Int)
  | fo (f : Int)
  | hb (h : Int)
  | hm (h : Int)
  | bx (i : Int)
structure Lay where
  v : Nat
  mf : Nat
  mh : Nat
  mx : Nat
  fb : Int → Nat
  fo : Int → Nat
  hb : Int → Nat
  hm : Int → Nat
  bx : Int → Nat
abbrev ptr (b : Nat) : Value := .pointer (some ⟨b, 0, none⟩)
def vrow (y : Lay) (last : Int) : List Value := [.int .i64 last, .map (some y.mf), .map (some y.mh), .map (some y.mx)]
def frow (y : Lay) (f : Int) (g : Fv) : List Value := [.int .i64 g.mem, .map (some (y.fo f))]
def hrow (y : Lay) (h : Int) (x : Hv) : List Value := [.int .i64 x.size, .int .i64 x.used, .map (some (y.hm h))]
abbrev brow (b : Bv) : List Value := [.int .i64 b.id, .int .i64 b.fn, .int .i64 b.ho, .bool b.boots, .bool b.busy]
def MpT {α : Type} (w : World) (b : Nat) (m : Tb α) (e : Int → α → Value) : Prop := Mp Try.prog 3 w b (fun i => (m.a i).map (e i)) m.n

def Ob (w : World) (own : Nat → Option Tag) (y : Lay) (s : Vs) : Tag → Prop
  | .vw => own y.v = some .vw ∧ w.heap[y.v]? = some (.cells (vrow y s.last).toArray 52 (0, 0))
  | .mf => own y.mf = some .mf ∧ MpT w y.mf s.fu (fun f _ => ptr (y.fb f))
  | .mh => own y.mh = some .mh ∧ MpT w y.mh s.ho (fun h _ => ptr (y.hb h))
  | .mx => own y.mx = some .mx ∧ MpT w y.mx s.mx (fun i _ => ptr (y.bx i))
  | .fb f => ∀ g, s.fu.a f = some g → own (y.fb f) = some (.fb f) ∧ w.heap[y.fb f]? = some (.cells (frow y f g).toArray 81 (0, 0))
  | .fo f => ∀ g, s.fu.a f = some g → own (y.fo f) = some (.fo f) ∧ MpT w (y.fo f) g.on (fun _ c => .int .i64 c)
  | .hb h => ∀ x, s.ho.a h = some x → own (y.hb h) = some (.hb h) ∧ w.heap[y.hb h]? = some (.cells (hrow y h x).toArray 70 (0, 0))
  | .hm h => ∀ x, s.ho.a h = some x → own (y.hm h) = some (.hm h) ∧ MpT w (y.hm h) x.bo (fun i _ => ptr (y.bx i))
  | .bx i => ∀ b, s.bx i = some b → own (y.bx i) = some (.bx i) ∧ w.heap[y.bx i]? = some (.cells (brow b).toArray 68 (0, 0))

structure Cor (w : World) (own : Nat → Option Tag) (y : Lay) (s : Vs) : Prop where
  lt : ∀ j t, own j = some t → j < w.heap.size
  ob : ∀ t, Ob w own y s t

theorem MpT.kept {α : Type} {w w' : World} {b : Nat} {m : Tb α} {e : Int → α → Value} {S : Nat → Prop} (h : MpT w b m e) (ho : Only w w' S) (hb : ¬ S b) : MpT w' b m e := Mp.kept h ho hb
theorem MpT.lt {α : Type} {w : World} {b : Nat} {m : Tb α} {e : Int → α → Value} (h : MpT w b m e) : b < w.heap.size := Mp.lt h

def grow (own : Nat → Option Tag) (w w' : World) (t : Tag) : Nat → Option Tag := fun j => if j < w.heap.size then own j else if j < w'.heap.size then some t else none
theorem grow_old {own : Nat → Option Tag} {w w' : World} {t : Tag} {j : Nat} (h : j < w.heap.size) : grow own w w' t j = own j := if_pos h
theorem grow_new {own : Nat → Option Tag} {w w' : World} {t : Tag} {j : Nat} (h : w.heap.size ≤ j) (h' : j < w'.heap.size) : grow own w w' t j = some t := by unfold grow; rw [if_neg (by omega), if_pos h']
theorem grow_inv {own : Nat → Option Tag} {w w' : World} {t u : Tag} {j : Nat} (h : grow own w w' t j = some u) : (j < w.heap.size ∧ own j = some u) ∨ (w.heap.size ≤ j ∧ j < w'.heap.size ∧ u = t) := by
  unfold grow at h
  split at h
  · exact Or.inl ⟨by assumption, h⟩
  · split at h
    · cases h; exact Or.inr ⟨by omega, by assumption, rfl⟩
    · cases h

theorem Ob.kept {w w' : World} {own own' : Nat → Option Tag} {y : Lay} {s : Vs} {S : Nat → Prop} {t : Tag} (h : Ob w own y s t) (ho : Only w w' S) (hS : ∀ j, own j = some t → ¬ S j) (hw : ∀ j, own j = some t → own' j = some t) : Ob w' own' y s t := by
  cases t with
  | vw => exact ⟨hw _ h.1, ho.blk (hS _ h.1) h.2⟩
  | mf => exact ⟨hw _ h.1, h.2.kept ho (hS _ h.1)⟩
  | mh => exact ⟨hw _ h.1, h.2.kept ho (hS _ h.1)⟩
  | mx => exact ⟨hw _ h.1, h.2.kept ho (hS _ h.1)⟩
  | fb f => exact fun v hv => ⟨hw _ (h v hv).1, ho.blk (hS _ (h v hv).1) (h v hv).2⟩
  | fo f => exact fun v hv => ⟨hw _ (h v hv).1, (h v hv).2.kept ho (hS _ (h v hv).1)⟩
  | hb f => exact fun v hv => ⟨hw _ (h v hv).1, ho.blk (hS _ (h v hv).1) (h v hv).2⟩
  | hm f => exact fun v hv => ⟨hw _ (h v hv).1, (h v hv).2.kept ho (hS _ (h v hv).1)⟩
  | bx f => exact fun v hv => ⟨hw _ (h v hv).1, ho.blk (hS _ (h v hv).1) (h v hv).2⟩

structure Nx (w : World) (own : Nat → Option Tag) (w' : World) (own' : Nat → Option Tag) : Prop where
  only : Only w w' (fun j => own j ≠ none)
  new : ∀ j, own' j ≠ none → own j ≠ none ∨ w.heap.size ≤ j
theorem Nx.refl (w : World) (own : Nat → Option Tag) : Nx w own w own := ⟨Only.refl _ _, fun _ h => Or.inl h⟩
theorem Nx.trans {w w1 w2 : World} {o o1 o2 : Nat → Option Tag} (h : Nx w o w1 o1) (k : Nx w1 o1 w2 o2) : Nx w o w2 o2 :=
  ⟨h.only.trans k.only (fun j q => h.new j q), fun j q => (k.new j q).elim (h.new j) (fun q => Or.inr (by have := h.only.size; omega))⟩
theorem Nx.blk {w w' : World} {o o' : Nat → Option Tag} (h : Nx w o w' o') {x : Nat} {b : Obj} (hx : o x = none) (hc : w.heap[x]? = some b) : w'.heap[x]? = some b := h.only.blk (fun q => q hx) hc
theorem Nx.cell {w w' : World} {o o' : Nat → Option Tag} (h : Nx w o w' o') {x : Addr} {v : Value} (hx : o x.block = none) (hc : w.cell? x = some v) : w'.cell? x = some v := h.only.cell (fun q => q hx) hc
theorem Nx.none {w w' : World} {o o' : Nat → Option Tag} (h : Nx w o w' o') {x : Nat} (hx : o x = none) (hl : x < w.heap.size) : o' x = none := by
  cases q : o' x with
  | none => rfl
  | some t => rcases h.new x (by rw [q]; simp) with e | e
              · exact absurd hx e
              · omega
theorem Nx.drewN {w w1 : World} {o o1 : Nat → Option Tag} (h : Nx w o w1 o1) (n : Nat) : Nx w o (w1.drewN n) o1 := ⟨h.only.drewN n, h.new⟩
theorem Nx.drew {w w1 : World} {o o1 : Nat → Option Tag} (h : Nx w o w1 o1) : Nx w o w1.drew o1 := ⟨h.only.drewN 1, h.new⟩
theorem Nx.alloc {w w1 : World} {o o1 : Nat → Option Tag} (h : Nx w o w1 o1) (b : Obj) : Nx w o (w1.alloc b) o1 := ⟨h.only.alloc b, h.new⟩

/-- One thing turns. -/
theorem Cor.turn {w w' : World} {own : Nat → Option Tag} {y y' : Lay} {s s' : Vs} (h : Cor w own y s) (t0 : Tag) (ho : Only w w' (fun j => own j = some t0)) (hn : Ob w' (grow own w w' t0) y' s' t0) (hs : ∀ t, t ≠ t0 → Ob w own y s t → Ob w own y' s' t) :
    Cor w' (grow own w w' t0) y' s' ∧ Nx w own w' (grow own w w' t0) := by
  have hsz := ho.size
  refine ⟨⟨fun j t q => ?_, fun t => ?_⟩, ho.mono (fun j q => by rw [q]; simp), fun j q => ?_⟩
  · rcases grow_inv q with q | q
    · omega
    · omega
  · by_cases e : t = t0
    · subst e; exact hn
    · refine (hs t e (h.ob t)).kept ho (fun j q q' => e ?_) (fun j q => by rw [grow_old (h.lt _ _ q)]; exact q)
      rw [q] at q'; cases q'; rfl
  · cases hq : grow own w w' t0 j with
    | none => exact absurd hq q
    | some u =>
      rcases grow_inv hq with q | q
      · left; rw [q.2]; simp
      · right; exact q.1
theorem Cor.side {w w' : World} {own : Nat → Option Tag} {y : Lay} {s : Vs} (h : Cor w own y s) {S : Nat → Prop} (ho : Only w w' S) (hS : ∀ j, S j → own j = none) : Cor w' own y s :=
  ⟨fun j t q => Nat.lt_of_lt_of_le (h.lt j t q) ho.size, fun t => (h.ob t).kept ho (fun j q q' => by rw [hS j q'] at q; cases q) (fun _ q => q)⟩
theorem Cor.below {w w' : World} {own : Nat → Option Tag} {y : Lay} {s : Vs} (h : Cor w own y s) (hb : Below w.heap.size w w') : Cor w' own y s := h.side (Only.of_below (S := fun _ => False) hb) (fun _ q => q.elim)
theorem Nx.below {w w' : World} (own : Nat → Option Tag) (hb : Below w.heap.size w w') : Nx w own w' own := ⟨Only.of_below hb, fun _ q => Or.inl q⟩
theorem Cor.alloc {w : World} {own : Nat → Option Tag} {y : Lay} {s : Vs} (h : Cor w own y s) (o : Obj) : Cor (w.alloc o) own y s := h.below ((Below.refl _ _).alloc (Nat.le_refl _) _)
theorem Cor.drewN {w : World} {own : Nat → Option Tag} {y : Lay} {s : Vs} (h : Cor w own y s) (n : Nat) : Cor (w.drewN n) own y s := h.side (S := fun _ => False) ((Only.refl w _).drewN n) (fun _ q => q.elim)
theorem Cor.drew {w : World} {own : Nat → Option Tag} {y : Lay} {s : Vs} (h : Cor w own y s) : Cor w.drew own y s := h.drewN 1
theorem Cor.fresh {w : World} {own : Nat → Option Tag} {y : Lay} {s : Vs} (h : Cor w own y s) {j : Nat} (hj : w.heap.size ≤ j) : own j = none := by
  cases q : own j with
  | none => rfl
  | some t => have := h.lt j t q; omega
/-- What a call leaves that turns only blocks of its own. -/
abbrev To (w : World) (own : Nat → Option Tag) (y : Lay) (s' : Vs) (w' : World) : Prop := ∃ own', Cor w' own' y s' ∧ Nx w own w' own'
theorem To.below {w w' : World} {own : Nat → Option Tag} {y : Lay} {s : Vs} (h : Cor w own y s) (hb : Below w.heap.size w w') : To w own y s w' := ⟨own, h.below hb, Nx.below own hb⟩
theorem To.of {w w' : World} {own o' : Nat → Option Tag} {y : Lay} {s' : Vs} (h : Cor w' o' y s' ∧ Nx w own w' o') : To w own y s' w' := ⟨o', h⟩

theorem own_old {w w' : World} {own : Nat → Option Tag} {y : Lay} {s : Vs} (h : Cor w own y s) {j : Nat} {t u : Tag} (hj : own j = some t) : grow own w w' u j = some t := by rw [grow_old (h.lt _ _ hj)]; exact hj
theorem Only.own {w w' : World} {own : Nat → Option Tag} {b : Nat} {t : Tag} (hb : own b = some t) (hg : w.grownBy w' (some b)) : Only w w' (fun j => own j = some t) := Only.grown hg (Or.inl hb)
theorem mapT {α : Type} (m : Tb α) (e : Int → α → Value) (i : Int) (v : α) : (fun x => ((m.set i v).a x).map (e x)) = updZ (fun x => (m.a x).map (e x)) i (some (e i v)) := by
  funext x; unfold Tb.set updZ; dsimp only; split
  · rename_i q; subst q; rfl
  · rfl
theorem mapD {α : Type} (m : Tb α) (e : Int → α → Value) (i : Int) : (fun x => ((m.del i).a x).map (e x)) = updZ (fun x => (m.a x).map (e x)) i none := by
  funext x; unfold Tb.del updZ; dsimp only; split <;> rfl
theorem isSome_map {α β : Type} (o : Option α) (f : α → β) : (o.map f).isSome = o.isSome := by cases o <;> rfl
theorem MpT.mp {α : Type} {w : World} {b : Nat} {m : Tb α} {e : Int → α → Value} (h : MpT w b m e) : Mp Try.prog 3 w b (fun x => (m.a x).map (e x)) m.n := h
theorem MpT.set {α : Type} {w' : World} {b : Nat} {m : Tb α} {e : Int → α → Value} {i : Int} {v : α} (h : Mp Try.prog 3 w' b (updZ (fun x => (m.a x).map (e x)) i (some (e i v))) (if ((fun x => (m.a x).map (e x)) i).isSome then m.n else m.n + 1)) : MpT w' b (m.set i v) e := by
  unfold MpT; rw [mapT]; dsimp only at h; rw [isSome_map] at h; exact h
theorem MpT.del {α : Type} {w' : World} {b : Nat} {m : Tb α} {e : Int → α → Value} {i : Int} (h : Mp Try.prog 3 w' b (updZ (fun x => (m.a x).map (e x)) i none) (if ((fun x => (m.a x).map (e x)) i).isSome then m.n - 1 else m.n)) : MpT w' b (m.del i) e := by
  unfold MpT; rw [mapD]; dsimp only at h; rw [isSome_map] at h; exact h
theorem MpT.same {α : Type} {w : World} {b : Nat} {m : Tb α} {e : Int → α → Value} {i : Int} {v v' : α} (h : MpT w b m e) (hv : m.a i = some v) (he : e i v' = e i v) : MpT w b (m.set i v') e := by
  unfold MpT at h ⊢
  have h1 : (fun x => ((m.set i v').a x).map (e x)) = (fun x => (m.a x).map (e x)) := by
    rw [mapT]; funext x; unfold updZ; split
    · rename_i q; subst q; rw [hv, he]; rfl
    · rfl
  have h2 : (m.set i v').n = m.n := by unfold Tb.set; rw [hv]; rfl
  rw [h1, h2]; exact h
theorem MpT.made {α : Type} {w : World} (e : Int → α → Value) : MpT (w.alloc (.map #[] 0)) w.heap.size (Tb.nil : Tb α) e := by
  have := Mp.made Try.prog 3 w
  unfold MpT Tb.nil; exact this

/-- A function that is there turns; t0 alone is what tells of it. -/
theorem ob_setF {w : World} {own : Nat → Option Tag} {y : Lay} {s : Vs} {f : Int} {g : Fv} {t0 : Tag} (hg : s.fu.a f = some g) (g' : Fv) (e1 : t0 = .fb f ∨ g'.mem = g.mem) (e2 : t0 = .fo f ∨ g'.on = g.on) :
    ∀ t, t ≠ t0 → Ob w own y s t → Ob w own y (s.setF f g') t := by
  have k : ∀ {x : Int} {v : Fv}, (s.setF f g').fu.a x = some v → (x = f ∧ v = g') ∨ (x ≠ f ∧ s.fu.a x = some v) := by
    intro x v h
    by_cases q : x = f
    · subst q
      rw [show (s.setF x g').fu.a x = some g' from Tb.set_at _ _ _] at h
      cases h; exact Or.inl ⟨rfl, rfl⟩
    · rw [show (s.setF f g').fu.a x = s.fu.a x from Tb.set_ne _ _ q] at h
      exact Or.inr ⟨q, h⟩
  intro t ne h
  cases t with
  | mf => exact ⟨h.1, h.2.same hg rfl⟩
  | fb x =>
    intro v hv
    rcases k hv with ⟨rfl, rfl⟩ | ⟨q, hv'⟩
    · unfold frow; rw [e1.resolve_left (fun q => ne q.symm)]; exact h _ hg
    · exact h _ hv'
  | fo x =>
    intro v hv
    rcases k hv with ⟨rfl, rfl⟩ | ⟨q, hv'⟩
    · rw [e2.resolve_left (fun q => ne q.symm)]; exact h _ hg
    · exact h _ hv'
  | _ => exact h
theorem ob_setH {w : World} {own : Nat → Option Tag} {y : Lay} {s : Vs} {f : Int} {g : Hv} {t0 : Tag} (hg : s.ho.a f = some g) (g' : Hv) (e1 : t0 = .hb f ∨ (g'.size = g.size ∧ g'.used = g.used)) (e2 : t0 = .hm f ∨ g'.bo = g.bo) :
    ∀ t, t ≠ t0 → Ob w own y s t → Ob w own y (s.setH f g') t := by
  have k : ∀ {x : Int} {v : Hv}, (s.setH f g').ho.a x = some v → (x = f ∧ v = g') ∨ (x ≠ f ∧ s.ho.a x = some v) := by
    intro x v h
    by_cases q : x = f
    · subst q
      rw [show (s.setH x g').ho.a x = some g' from Tb.set_at _ _ _] at h
      cases h; exact Or.inl ⟨rfl, rfl⟩
    · rw [show (s.setH f g').ho.a x = s.ho.a x from Tb.set_ne _ _ q] at h
      exact Or.inr ⟨q, h⟩
  intro t ne h
  cases t with
  | mh => exact ⟨h.1, h.2.same hg rfl⟩
  | hb x =>
    intro v hv
    rcases k hv with ⟨rfl, rfl⟩ | ⟨q, hv'⟩
    · obtain ⟨a, b⟩ := e1.resolve_left (fun q => ne q.symm)
      unfold hrow; rw [a, b]; exact h _ hg
    · exact h _ hv'
  | hm x =>
    intro v hv
    rcases k hv with ⟨rfl, rfl⟩ | ⟨q, hv'⟩
    · rw [e2.resolve_left (fun q => ne q.symm)]; exact h _ hg
    · exact h _ hv'
  | _ => exact h
theorem ob_setB {w : World} {own : Nat → Option Tag} {y : Lay} {s : Vs} (b : Bv) : ∀ t, t ≠ .bx b.id → Ob w own y s t → Ob w own y (s.setB b) t := by
  intro t ne h
  cases t with
  | bx x =>
    intro v hv
    have q : x ≠ b.id := fun q => ne (by rw [q])
    rw [show (s.setB b).bx x = s.bx x from updZ_ne _ _ q] at hv
    exact h _ hv
  | _ => exact h
section
variable {w w' : World} {own : Nat → Option Tag} {y : Lay} {s : Vs}
theorem Cor.vw (h : Cor w own y s) {n : Int} (hn : w'.heap[y.v]? = some (.cells (vrow y n).toArray 52 (0, 0))) (hg : w.grownBy w' (some y.v)) : Cor w' (grow own w w' .vw) y { s with last := n } ∧ Nx w own w' (grow own w w' .vw) :=
  h.turn .vw (Only.own (h.ob .vw).1 hg) ⟨own_old h (h.ob .vw).1, hn⟩ (fun t ne ht => by cases t <;> first | exact ht | exact absurd rfl ne)
theorem Cor.mx (h : Cor w own y s) {m : Tb Unit} (hn : MpT w' y.mx m (fun i _ => ptr (y.bx i))) (hg : w.grownBy w' (some y.mx)) : Cor w' (grow own w w' .mx) y { s with mx := m } ∧ Nx w own w' (grow own w w' .mx) :=
  h.turn .mx (Only.own (h.ob .mx).1 hg) ⟨own_old h (h.ob .mx).1, hn⟩ (fun t ne ht => by cases t <;> first | exact ht | exact absurd rfl ne)
theorem Cor.fb (h : Cor w own y s) {f : Int} {g : Fv} (e : s.fu.a f = some g) {m : Int} (hn : w'.heap[y.fb f]? = some (.cells (frow y f { g with mem := m }).toArray 81 (0, 0))) (hg : w.grownBy w' (some (y.fb f))) : Cor w' (grow own w w' (.fb f)) y (s.setF f { g with mem := m }) ∧ Nx w own w' (grow own w w' (.fb f)) := by
  have ho := ((h.ob (.fb f)) g e).1
  refine h.turn (.fb f) (Only.own ho hg) (fun v hv => ?_) (ob_setF e _ (Or.inl rfl) (Or.inr rfl))
  rw [show (s.setF f { g with mem := m }).fu.a f = some { g with mem := m } from Tb.set_at _ _ _] at hv
  cases hv
  exact ⟨own_old h ho, hn⟩
theorem Cor.fo (h : Cor w own y s) {f : Int} {g : Fv} (e : s.fu.a f = some g) {m : Tb Int} (hn : MpT w' (y.fo f) m (fun _ c => .int .i64 c)) (hg : w.grownBy w' (some (y.fo f))) : Cor w' (grow own w w' (.fo f)) y (s.setF f { g with on := m }) ∧ Nx w own w' (grow own w w' (.fo f)) := by
  have ho := ((h.ob (.fo f)) g e).1
  refine h.turn (.fo f) (Only.own ho hg) (fun v hv => ?_) (ob_setF e _ (Or.inr rfl) (Or.inl rfl))
  rw [show (s.setF f { g with on := m }).fu.a f = some { g with on := m } from Tb.set_at _ _ _] at hv
  cases hv
  exact ⟨own_old h ho, hn⟩
theorem Cor.hb (h : Cor w own y s) {f : Int} {g : Hv} (e : s.ho.a f = some g) {z u : Int} (hn : w'.heap[y.hb f]? = some (.cells (hrow y f { g with size := z, used := u }).toArray 70 (0, 0))) (hg : w.grownBy w' (some (y.hb f))) : Cor w' (grow own w w' (.hb f)) y (s.setH f { g with size := z, used := u }) ∧ Nx w own w' (grow own w w' (.hb f)) := by
  have ho := ((h.ob (.hb f)) g e).1
  refine h.turn (.hb f) (Only.own ho hg) (fun v hv => ?_) (ob_setH e _ (Or.inl rfl) (Or.inr rfl))
  rw [show (s.setH f { g with size := z, used := u }).ho.a f = some { g with size := z, used := u } from Tb.set_at _ _ _] at hv
  cases hv
  exact ⟨own_old h ho, hn⟩
theorem Cor.hm (h : Cor w own y s) {f : Int} {g : Hv} (e : s.ho.a f = some g) {m : Tb Unit} (hn : MpT w' (y.hm f) m (fun i _ => ptr (y.bx i))) (hg : w.grownBy w' (some (y.hm f))) : Cor w' (grow own w w' (.hm f)) y (s.setH f { g with bo := m }) ∧ Nx w own w' (grow own w w' (.hm f)) := by
  have ho := ((h.ob (.hm f)) g e).1
  refine h.turn (.hm f) (Only.own ho hg) (fun v hv => ?_) (ob_setH e _ (Or.inr ⟨rfl, rfl⟩) (Or.inl rfl))
  rw [show (s.setH f { g with bo := m }).ho.a f = some { g with bo := m } from Tb.set_at _ _ _] at hv
  cases hv
  exact ⟨own_old h ho, hn⟩
theorem Cor.bx (h : Cor w own y s) {b0 b : Bv} (e : s.bx b.id = some b0) (hn : w'.heap[y.bx b.id]? = some (.cells (brow b).toArray 68 (0, 0))) (hg : w.grownBy w' (some (y.bx b.id))) : Cor w' (grow own w w' (.bx b.id)) y (s.setB b) ∧ Nx w own w' (grow own w w' (.bx b.id)) := by
  have ho := ((h.ob (.bx b.id)) b0 e).1
  refine h.turn (.bx b.id) (Only.own ho hg) (fun v hv => ?_) (ob_setB b)
  rw [show (s.setB b).bx b.id = some b from updZ_same _ _ _] at hv
  cases hv
  exact ⟨own_old h ho, hn⟩
/-- Places, hosts and sandboxes of which nothing is known any more. -/
theorem Cor.mh_del (h : Cor w own y s) {x : Int} (hn : MpT w' y.mh (s.ho.del x) (fun h _ => ptr (y.hb h))) (hg : w.grownBy w' (some y.mh)) : Cor w' (grow own w w' .mh) y { s with ho := s.ho.del x } ∧ Nx w own w' (grow own w w' .mh) := by
  have k : ∀ {z : Int} {v : Hv}, (s.ho.del x).a z = some v → s.ho.a z = some v := by
    intro z v hv
    by_cases q : z = x
    · subst q; rw [Tb.del_at] at hv; cases hv
    · rwa [Tb.del_ne _ q] at hv
  refine h.turn .mh (Only.own (h.ob .mh).1 hg) ⟨own_old h (h.ob .mh).1, hn⟩ (fun t ne ht => ?_)
  cases t with
  | mh => exact absurd rfl ne
  | hb z => exact fun v hv => ht v (k hv)
  | hm z => exact fun v hv => ht v (k hv)
  | _ => exact ht
theorem Cor.noB (h : Cor w own y s) (i : Int) : Cor w own y { s with bx := updZ s.bx i none } := by
  refine ⟨h.lt, fun t => ?_⟩
  have := h.ob t
  cases t with
  | bx x =>
    intro v hv
    by_cases q : x = i
    · subst q; rw [show ({ s with bx := updZ s.bx x none } : Vs).bx x = none from updZ_same _ _ _] at hv; cases hv
    · rw [show ({ s with bx := updZ s.bx i none } : Vs).bx x = s.bx x from updZ_ne _ _ q] at hv; exact this v hv
  | _ => exact this
end
end Go.Proofs.Ytgpookphacdgoaa.W.U
