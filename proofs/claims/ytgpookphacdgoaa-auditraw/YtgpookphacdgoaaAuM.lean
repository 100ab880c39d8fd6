/- Package audit, plain: what is known from outside as a value, and what each step turns. -/
import Derived.Test.YtgpookphacdgoaaHeapM
import Derived.Test.YtgpookphacdgoaaEvL
import Derived.Test.YtgpookphacdgoaaReM
namespace Go.Proofs.Ytgpookphacdgoaa.W.U
open Go.RowKit Go.Proofs.Ytgpookphacdgoaa.W

/-- A sandbox. -/
structure Bv where
  id : Int
  fn : Int
  ho : Int
  boots : Bool
  busy : Bool
abbrev Cmd := Bool × Int × Int × Int
abbrev Stp := Ev × An × List Cmd
/-- What is known. -/
structure Wd where
  L : List Bv
  sz : Int → Int
  me : Int → Option Int
  nx : Int
def upI (f : Int → Int) (i v : Int) : Int → Int := fun j => if j = i then v else f j
theorem upI_same (f : Int → Int) (i v : Int) : upI f i v i = v := by simp [upI]
theorem upI_ne (f : Int → Int) {i j : Int} (v : Int) (h : j ≠ i) : upI f i v j = f j := by simp [upI, h]
def fnd : List Bv → Int → Option Bv
  | [], _ => none
  | b :: r, i => if b.id = i then some b else fnd r i
def drp : List Bv → Int → List Bv
  | [], _ => []
  | b :: r, i => if b.id = i then r else b :: drp r i
def up1 (g : Bv → Bv) (i : Int) : List Bv → List Bv
  | [] => []
  | b :: r => if b.id = i then g b :: r else b :: up1 g i r
def usd (me : Int → Option Int) : List Bv → Int → Int
  | [], _ => 0
  | b :: r, h => (if b.ho = h then (me b.fn).getD 0 else 0) + usd me r h
def cnt : List Bv → Int → Int → Nat
  | [], _, _ => 0
  | b :: r, f, h => (if b.fn = f ∧ b.ho = h then 1 else 0) + cnt r f h
def Wd.zero : Wd := ⟨[], fun _ => 0, fun _ => none, 1⟩

def bootW (W : Wd) (c : Cmd) : Wd := { W with L := W.L ++ [⟨c.2.1, c.2.2.1, c.2.2.2, true, false⟩], nx := W.nx + 1 }
def cmd (W : Wd) (c : Cmd) : Option Wd :=
  if c.1 = true then
    (match W.me c.2.2.1 with
    | some m => if c.2.1 = W.nx ∧ usd W.me W.L c.2.2.2 + m ≤ W.sz c.2.2.2 then some (bootW W c) else none
    | none => none)
  else
    (match fnd W.L c.2.1 with
    | some b => if b.busy = false ∧ b.fn = c.2.2.1 ∧ b.ho = c.2.2.2 then some { W with L := drp W.L c.2.1 } else none
    | none => none)
def cmds : Wd → List Cmd → Option Wd
  | W, [] => some W
  | W, c :: r => match cmd W c with
    | some W' => cmds W' r
    | none => none
def setBoots (b : Bv) : Bv := { b with boots := false }
def setFree (b : Bv) : Bv := { b with busy := false }
def setBusy (b : Bv) : Bv := { b with busy := true }
def hap (W : Wd) (e : Ev) : Option Wd :=
  if e.k = 3 then some { W with sz := upI W.sz e.n e.s }
  else if e.k = 2 then some { W with me := updZ W.me e.n (some e.m) }
  else if e.k = 7 then
    (match fnd W.L e.n with
    | some b => if b.boots = true then some { W with L := up1 setBoots e.n W.L } else none
    | none => none)
  else if e.k = 9 then
    (match fnd W.L e.n with
    | some b => if b.boots = false ∧ b.busy = true then some { W with L := up1 setFree e.n W.L } else none
    | none => none)
  else if e.k = 8 then
    (match fnd W.L e.n with
    | some _ => some { W with L := drp W.L e.n }
    | none => none)
  else if e.k = 5 then some { W with L := W.L.filter (fun b => b.ho != e.n), sz := upI W.sz e.n 0 }
  else some W
/-- A call's answer, behind the commands. -/
def clo (W : Wd) (e : Ev) (a : An) (cs : List Cmd) : Option Wd :=
  if e.k ≠ 6 then some W
  else if a.k = 4 then (if cs = [] then some W else none)
  else
    (match fnd W.L a.b with
    | some b => if b.busy = false ∧ b.fn = e.n ∧ (a.k = 2 → b.boots = false ∧ cs = []) ∧ (a.k = 3 → b.boots = true ∧ a.b = W.nx - 1) then some { W with L := up1 setBusy a.b W.L } else none
    | none => none)
open Classical in
noncomputable def stp (W : Wd) (s : Stp) : Option Wd :=
  if ¬ right s.1 ∨ ¬ okA s.2.1 then none
  else if s.2.1.k = 1 then (if s.2.2 = [] then some W else none)
  else if s.1.k ≠ 6 ∧ s.2.1.k ≠ 0 ∨ s.1.k = 6 ∧ s.2.1.k = 0 then none
  else match hap W s.1 with
    | none => none
    | some W1 => match cmds W1 s.2.2 with
      | none => none
      | some W2 => clo W2 s.1 s.2.1 s.2.2
noncomputable def fst_ : Wd → Nat → List Stp → Int
  | _, _, [] => -1
  | W, i, s :: r => match stp W s with
    | some W' => fst_ W' (i + 1) r
    | none => (i : Int)

/-! Lists. -/
/-- b is the first one with that number, at place k. -/
def At (L : List Bv) (i : Int) (k : Nat) (b : Bv) : Prop := L[k]? = some b ∧ b.id = i ∧ ∀ j, j < k → ∀ c, L[j]? = some c → c.id ≠ i
theorem At.all {i : Int} {b : Bv} : ∀ {L : List Bv} {k : Nat}, At L i k b → fnd L i = some b ∧ drp L i = L.take k ++ L.drop (k + 1) ∧ ∀ g, up1 g i L = L.set k (g b)
  | [], k, h => by simp [At] at h
  | c :: r, 0, h => by
    obtain ⟨h1, h2, _⟩ := h
    simp at h1; subst h1
    simp [fnd, drp, up1, h2]
  | c :: r, k + 1, h => by
    obtain ⟨h1, h2, h3⟩ := h
    have hc : c.id ≠ i := h3 0 (by omega) c rfl
    obtain ⟨e1, e2, e3⟩ := At.all (L := r) (k := k) ⟨by simpa using h1, h2, fun j hj d hd => h3 (j + 1) (by omega) d (by simpa using hd)⟩
    refine ⟨by simp [fnd, hc, e1], by simp [drp, hc, e2], fun g => by simp [up1, hc, e3]⟩
theorem At.lt {L : List Bv} {i : Int} {k : Nat} {b : Bv} (h : At L i k b) : k < L.length := (List.getElem?_eq_some_iff.1 h.1).1
theorem At.none {i : Int} : ∀ {L : List Bv}, (∀ (j : Nat) c, L[j]? = some c → c.id ≠ i) → fnd L i = none
  | [], _ => rfl
  | c :: r, h => by
    rw [fnd, if_neg (h 0 c rfl)]
    exact At.none (fun j d hd => h (j + 1) d (by simpa using hd))
theorem fnd_mem {i : Int} {b : Bv} : ∀ {L : List Bv}, fnd L i = some b → b ∈ L ∧ b.id = i
  | [], h => by cases h
  | c :: r, h => by
    rw [fnd] at h
    split at h
    · cases h; exact ⟨List.mem_cons_self, by assumption⟩
    · obtain ⟨h1, h2⟩ := fnd_mem h; exact ⟨List.mem_cons_of_mem _ h1, h2⟩
theorem fnd_none {i : Int} : ∀ {L : List Bv}, fnd L i = none → ∀ b ∈ L, b.id ≠ i
  | [], _, b, hb => by cases hb
  | c :: r, h, b, hb => by
    rw [fnd] at h
    split at h
    · cases h
    · rcases List.mem_cons.1 hb with rfl | hb
      · assumption
      · exact fnd_none h b hb
theorem fnd_of_mem {L : List Bv} (hd : L.Pairwise (fun x y => x.id ≠ y.id)) {b : Bv} (hb : b ∈ L) : fnd L b.id = some b := by
  induction L with
  | nil => cases hb
  | cons c r ih =>
    obtain ⟨h1, h2⟩ := List.pairwise_cons.1 hd
    rcases List.mem_cons.1 hb with rfl | hb
    · simp [fnd]
    · rw [fnd, if_neg (h1 b hb)]; exact ih h2 hb
theorem fnd_drp_ne {i j : Int} (h : j ≠ i) : ∀ (L : List Bv), fnd (drp L i) j = fnd L j
  | [] => rfl
  | c :: r => by
    rw [drp, fnd]
    split
    · rename_i e; rw [if_neg (by rw [e]; exact fun q => h q.symm)]
    · rw [fnd, fnd_drp_ne h r]
theorem drp_sub (i : Int) : ∀ (L : List Bv), (drp L i).Sublist L
  | [] => List.Sublist.refl _
  | c :: r => by
    rw [drp]; split
    · exact List.sublist_cons_self _ _
    · exact (drp_sub i r).cons_cons _
theorem fnd_drp_same {L : List Bv} (hd : L.Pairwise (fun x y => x.id ≠ y.id)) (i : Int) : fnd (drp L i) i = none := by
  induction L with
  | nil => rfl
  | cons c r ih =>
    obtain ⟨h1, h2⟩ := List.pairwise_cons.1 hd
    rw [drp]; split
    · rename_i e
      cases q : fnd r i with
      | none => rfl
      | some b => obtain ⟨m, hm⟩ := fnd_mem q; exact absurd (e.trans hm.symm) (h1 b m)
    · rename_i e; rw [fnd, if_neg e]; exact ih h2
theorem drp_filter {L : List Bv} (hd : L.Pairwise (fun x y => x.id ≠ y.id)) (i : Int) : drp L i = L.filter (fun b => b.id != i) := by
  induction L with
  | nil => rfl
  | cons c r ih =>
    obtain ⟨h1, h2⟩ := List.pairwise_cons.1 hd
    rw [drp]; split
    · rename_i e
      rw [List.filter_cons_of_neg (by simp [e]), List.filter_eq_self.2]
      intro b hb; have := h1 b hb; rw [e] at this; simpa using fun q => this q.symm
    · rename_i e; rw [List.filter_cons_of_pos (by simpa using e), ih h2]
theorem usd_drp {me : Int → Option Int} {h i : Int} {b : Bv} : ∀ {L : List Bv}, fnd L i = some b → usd me (drp L i) h = usd me L h - (if b.ho = h then (me b.fn).getD 0 else 0)
  | [], q => by cases q
  | c :: r, q => by
    rw [fnd] at q
    rw [drp, usd]
    split at q
    · cases q; rename_i e; rw [if_pos e]; omega
    · rename_i e; rw [if_neg e, usd, usd_drp (L := r) q]; omega
theorem cnt_drp {f h i : Int} {b : Bv} : ∀ {L : List Bv}, fnd L i = some b → cnt L f h = cnt (drp L i) f h + (if b.fn = f ∧ b.ho = h then 1 else 0)
  | [], q => by cases q
  | c :: r, q => by
    rw [fnd] at q
    rw [drp, cnt]
    split at q
    · cases q; rename_i e; rw [if_pos e]; omega
    · rename_i e; rw [if_neg e, cnt, cnt_drp (L := r) q]; omega
theorem len_drp {i : Int} {b : Bv} : ∀ {L : List Bv}, fnd L i = some b → L.length = (drp L i).length + 1
  | [], q => by cases q
  | c :: r, q => by
    rw [fnd] at q
    rw [drp]
    split at q
    · rename_i e; rw [if_pos e]; rfl
    · rename_i e; rw [if_neg e, List.length_cons, List.length_cons, len_drp (L := r) q]
theorem usd_app (me : Int → Option Int) (h : Int) : ∀ (L M : List Bv), usd me (L ++ M) h = usd me L h + usd me M h
  | [], M => by simp [usd]
  | c :: r, M => by rw [List.cons_append, usd, usd, usd_app me h r M]; omega
theorem cnt_app (f h : Int) : ∀ (L M : List Bv), cnt (L ++ M) f h = cnt L f h + cnt M f h
  | [], M => by simp [cnt]
  | c :: r, M => by rw [List.cons_append, cnt, cnt, cnt_app f h r M]; omega
theorem fnd_app (i : Int) : ∀ (L M : List Bv), fnd (L ++ M) i = (fnd L i).orElse (fun _ => fnd M i)
  | [], M => by simp [fnd]
  | c :: r, M => by
    rw [List.cons_append, fnd, fnd, fnd_app i r M]; split <;> rfl
theorem usd_me (me : Int → Option Int) (f m h : Int) : ∀ (L : List Bv), usd (updZ me f (some m)) L h = usd me L h + (cnt L f h : Int) * (m - (me f).getD 0)
  | [] => by simp [usd, cnt]
  | c :: r => by
    rw [usd, usd, cnt, usd_me me f m h r]
    by_cases e1 : c.ho = h
    · by_cases e2 : c.fn = f
      · rw [if_pos e1, if_pos e1, if_pos ⟨e2, e1⟩, e2, updZ_same]
        simp only [Option.getD_some]
        have : ((1 + cnt r f h : Nat) : Int) * (m - (me f).getD 0) = (m - (me f).getD 0) + (cnt r f h : Int) * (m - (me f).getD 0) := by
          rw [Int.natCast_add, Int.add_mul]; simp
        rw [this]; omega
      · rw [if_pos e1, if_pos e1, if_neg (fun q => e2 q.1), updZ_ne _ _ e2]; simp; omega
    · rw [if_neg e1, if_neg e1, if_neg (fun q => e1 q.2)]; simp
theorem up1_same {g : Bv → Bv} (hf : ∀ b, (g b).fn = b.fn) (hh : ∀ b, (g b).ho = b.ho) (i : Int) (me : Int → Option Int) (f h : Int) : ∀ (L : List Bv), usd me (up1 g i L) h = usd me L h ∧ cnt (up1 g i L) f h = cnt L f h ∧ (up1 g i L).length = L.length
  | [] => ⟨rfl, rfl, rfl⟩
  | c :: r => by
    obtain ⟨h1, h2, h3⟩ := up1_same hf hh i me f h r
    rw [up1]; split
    · refine ⟨by rw [usd, usd, hf, hh], by rw [cnt, cnt, hf, hh], rfl⟩
    · exact ⟨by rw [usd, usd, h1], by rw [cnt, cnt, h2], by rw [List.length_cons, List.length_cons, h3]⟩
theorem fnd_up1 {g : Bv → Bv} (hi : ∀ b, (g b).id = b.id) (i j : Int) : ∀ (L : List Bv), fnd (up1 g i L) j = if j = i then (fnd L j).map g else fnd L j
  | [] => by simp [fnd, up1]
  | c :: r => by
    rw [up1]; split
    · rename_i e
      rw [fnd, fnd, hi]
      by_cases ej : j = i
      · subst ej; simp [e]
      · rw [if_neg (by rw [e]; exact fun q => ej q.symm), if_neg ej, if_neg (by rw [e]; exact fun q => ej q.symm)]
    · rename_i e
      rw [fnd, fnd, fnd_up1 hi i j r]
      by_cases ej : j = i
      · subst ej; simp [e]
      · simp only [if_neg ej]
theorem up1_mem {g : Bv → Bv} {i : Int} {b : Bv} : ∀ {L : List Bv}, b ∈ up1 g i L → ∃ c ∈ L, b = c ∨ b = g c
  | [], h => by cases h
  | c :: r, h => by
    rw [up1] at h; split at h
    · rcases List.mem_cons.1 h with rfl | h
      · exact ⟨c, List.mem_cons_self, Or.inr rfl⟩
      · exact ⟨b, List.mem_cons_of_mem _ h, Or.inl rfl⟩
    · rcases List.mem_cons.1 h with rfl | h
      · exact ⟨b, List.mem_cons_self, Or.inl rfl⟩
      · obtain ⟨d, h1, h2⟩ := up1_mem h; exact ⟨d, List.mem_cons_of_mem _ h1, h2⟩
theorem up1_ids {g : Bv → Bv} (hi : ∀ b, (g b).id = b.id) (i : Int) : ∀ (L : List Bv), (up1 g i L).map (·.id) = L.map (·.id)
  | [] => rfl
  | c :: r => by
    rw [up1]; split
    · simp [hi]
    · rw [List.map_cons, List.map_cons, up1_ids hi i r]
theorem usd_filter (me : Int → Option Int) (n h : Int) (hn : h ≠ n) : ∀ (L : List Bv), usd me (L.filter (fun b => b.ho != n)) h = usd me L h
  | [] => rfl
  | c :: r => by
    by_cases e : c.ho = n
    · rw [List.filter_cons_of_neg (by simp [e]), usd_filter me n h hn r, usd, if_neg (by rw [e]; exact fun q => hn q.symm)]; omega
    · rw [List.filter_cons_of_pos (by simpa using e), usd, usd, usd_filter me n h hn r]
theorem pw_ids {L M : List Bv} (h : L.map (·.id) = M.map (·.id)) (hd : L.Pairwise (fun x y => x.id ≠ y.id)) : M.Pairwise (fun x y => x.id ≠ y.id) := by
  have := (List.pairwise_map (f := fun b : Bv => b.id) (R := fun x y : Int => x ≠ y) (l := L)).2 hd
  rw [h] at this
  exact List.pairwise_map.1 this

/-! What holds of what is known. -/
structure Gd (W : Wd) (N : Nat) : Prop where
  len : W.L.length ≤ N
  nx1 : 1 ≤ W.nx
  nxN : W.nx ≤ (N : Int) + 1
  ids : ∀ b ∈ W.L, 1 ≤ b.id ∧ b.id < W.nx
  dis : W.L.Pairwise (fun x y => x.id ≠ y.id)
  fns : ∀ b ∈ W.L, (W.me b.fn).isSome
  mem : ∀ f m, W.me f = some m → 0 ≤ m ∧ m ≤ 2147483647
  szs : ∀ h, 0 ≤ W.sz h ∧ W.sz h ≤ 2147483647
  wfs : ∀ b ∈ W.L, (Lit.int .i64 b.fn).wf = true ∧ (Lit.int .i64 b.ho).wf = true
theorem Gd.zero : Gd Wd.zero 0 :=
  ⟨Nat.le_refl _, by decide, by decide, fun b h => (by cases h), List.Pairwise.nil, fun b h => (by cases h), fun f m h => (by cases h), fun h => ⟨Int.le_refl _, show (0 : Int) ≤ 2147483647 by decide⟩, fun b h => (by cases h)⟩
theorem Gd.up {W : Wd} {N M : Nat} (h : Gd W N) (hm : N ≤ M) : Gd W M := { h with len := Nat.le_trans h.len hm, nxN := by have := h.nxN; omega }
theorem usd_bd {me : Int → Option Int} (hm : ∀ f m, me f = some m → 0 ≤ m ∧ m ≤ 2147483647) (h : Int) : ∀ (L : List Bv), 0 ≤ usd me L h ∧ usd me L h ≤ (L.length : Int) * 2147483647
  | [] => ⟨Int.le_refl _, by simp [usd]⟩
  | c :: r => by
    obtain ⟨h1, h2⟩ := usd_bd hm h r
    have h3 : 0 ≤ (if c.ho = h then (me c.fn).getD 0 else 0) ∧ (if c.ho = h then (me c.fn).getD 0 else 0) ≤ 2147483647 := by
      split
      · cases q : me c.fn with
        | none => simp
        | some m => simpa using hm _ _ q
      · simp
    rw [usd, List.length_cons]
    have : ((r.length + 1 : Nat) : Int) * 2147483647 = (r.length : Int) * 2147483647 + 2147483647 := by rw [Int.natCast_add, Int.add_mul]; simp
    rw [this]
    omega
theorem Gd.usd {W : Wd} {N : Nat} (g : Gd W N) (hN : N ≤ 1048576) (h : Int) : 0 ≤ usd W.me W.L h ∧ usd W.me W.L h ≤ 2251799813685248 := by
  obtain ⟨h1, h2⟩ := usd_bd g.mem h W.L
  have := g.len
  refine ⟨h1, Int.le_trans h2 ?_⟩
  have h3 : (W.L.length : Int) ≤ 1048576 := by omega
  have := Int.mul_le_mul_of_nonneg_right h3 (show (0 : Int) ≤ 2147483647 by decide)
  omega
theorem cnt_le_len (f h : Int) : ∀ (L : List Bv), cnt L f h ≤ L.length
  | [] => Nat.le_refl _
  | c :: r => by
    have := cnt_le_len f h r
    rw [cnt, List.length_cons]; split <;> omega

/-- Numbers of a command that came in. -/
def cwf (c : Cmd) : Prop := (Lit.int .i64 c.2.1).wf = true ∧ (Lit.int .i64 c.2.2.1).wf = true ∧ (Lit.int .i64 c.2.2.2).wf = true
theorem Gd.drp {W : Wd} {N : Nat} (g : Gd W N) (i : Int) : Gd { W with L := drp W.L i } N := by
  have hs := drp_sub i W.L
  exact ⟨Nat.le_trans hs.length_le g.len, g.nx1, g.nxN, fun b hb => g.ids b (hs.subset hb), g.dis.sublist hs, fun b hb => g.fns b (hs.subset hb), g.mem, g.szs, fun b hb => g.wfs b (hs.subset hb)⟩
theorem Gd.up1 {W : Wd} {N : Nat} (g : Gd W N) {f : Bv → Bv} (h1 : ∀ b, (f b).id = b.id) (h2 : ∀ b, (f b).fn = b.fn) (h3 : ∀ b, (f b).ho = b.ho) (i : Int) : Gd { W with L := up1 f i W.L } N := by
  refine ⟨by rw [show ({ W with L := U.up1 f i W.L } : Wd).L.length = _ from (up1_same h2 h3 i W.me 0 0 W.L).2.2]; exact g.len, g.nx1, g.nxN, fun b hb => ?_, pw_ids (up1_ids h1 i W.L).symm g.dis, fun b hb => ?_, g.mem, g.szs, fun b hb => ?_⟩
  · obtain ⟨c, hc, rfl | rfl⟩ := up1_mem hb
    · exact g.ids _ hc
    · rw [h1]; exact g.ids _ hc
  · obtain ⟨c, hc, rfl | rfl⟩ := up1_mem hb
    · exact g.fns _ hc
    · rw [h2]; exact g.fns _ hc
  · obtain ⟨c, hc, rfl | rfl⟩ := up1_mem hb
    · exact g.wfs _ hc
    · rw [h2, h3]; exact g.wfs _ hc
theorem Gd.cmd {W W' : Wd} {N : Nat} (g : Gd W N) {c : Cmd} (hc : cwf c) (h : cmd W c = some W') : Gd W' (N + 1) := by
  unfold U.cmd at h
  split at h
  · split at h
    · rename_i m hm
      split at h
      · rename_i hx
        cases h
        have hnx := g.nx1
        refine ⟨by simp [bootW]; exact g.len, by simp [bootW]; omega, by simp [bootW]; have := g.nxN; omega, fun b hb => ?_, ?_, fun b hb => ?_, g.mem, g.szs, fun b hb => ?_⟩
        · rcases List.mem_append.1 hb with hb | hb
          · have := g.ids b hb; simp [bootW]; omega
          · obtain rfl := List.mem_singleton.1 hb
            simp [bootW]; omega
        · refine List.pairwise_append.2 ⟨g.dis, List.pairwise_singleton _ _, fun a ha b hb => ?_⟩
          obtain rfl := List.mem_singleton.1 hb
          have := g.ids a ha
          simp; omega
        · rcases List.mem_append.1 hb with hb | hb
          · exact g.fns b hb
          · obtain rfl := List.mem_singleton.1 hb
            simp [bootW, hm]
        · rcases List.mem_append.1 hb with hb | hb
          · exact g.wfs b hb
          · obtain rfl := List.mem_singleton.1 hb
            exact hc.2
      · cases h
    · cases h
  · split at h
    · split at h
      · cases h; exact (g.drp _).up (by omega)
      · cases h
    · cases h
theorem Gd.cmds : ∀ {cs : List Cmd} {W W' : Wd} {N : Nat}, Gd W N → (∀ c ∈ cs, cwf c) → cmds W cs = some W' → Gd W' (N + cs.length)
  | [], W, W', N, g, _, h => by cases h; exact g
  | c :: r, W, W', N, g, hw, h => by
    rw [U.cmds] at h
    split at h
    · rename_i W1 h1
      have := Gd.cmds (g.cmd (hw c List.mem_cons_self) h1) (fun d hd => hw d (List.mem_cons_of_mem _ hd)) h
      rw [List.length_cons]
      exact this.up (by omega)
    · cases h
theorem right_bd {e : Ev} (h : right e) : (0 ≤ e.n ∧ e.n ≤ 2147483647) ∧ (0 ≤ e.s ∧ e.s ≤ 2147483647) ∧ (0 ≤ e.m ∧ e.m ≤ 2147483647) ∧ 0 ≤ e.k ∧ e.k ≤ 9 := by
  obtain ⟨h0, h9, h1, h2⟩ := h
  refine ⟨?_, ?_, ?_, h0, h9⟩
  all_goals
    rw [← h2]
    unfold mk nums at *
    by_cases k0 : e.k = 0
    · simp [k0]
    · by_cases k1 : e.k = 1
      · simp [k1, nth] at *; try omega
      · by_cases k2 : e.k = 2
        · simp [k2, nth] at *; try omega
        · by_cases k3 : e.k = 3
          · simp [k3, nth] at *; try omega
          · simp [k0, k1, k2, k3, nth] at *; try omega
theorem Gd.hap {W W' : Wd} {N : Nat} (g : Gd W N) {e : Ev} (he : right e) (h : hap W e = some W') : Gd W' N := by
  obtain ⟨b1, b2, b3, _⟩ := right_bd he
  unfold U.hap at h
  split at h
  · cases h
    refine { g with szs := fun x => ?_ }
    show 0 ≤ upI W.sz e.n e.s x ∧ upI W.sz e.n e.s x ≤ 2147483647
    by_cases q : x = e.n
    · subst q; rw [upI_same]; exact b2
    · rw [upI_ne _ _ q]; exact g.szs x
  · split at h
    · cases h
      refine { g with fns := fun b hb => ?_, mem := fun f m hm => ?_ }
      · show (updZ W.me e.n (some e.m) b.fn).isSome
        by_cases q : b.fn = e.n
        · rw [q, updZ_same]; rfl
        · rw [updZ_ne _ _ q]; exact g.fns b hb
      · by_cases q : f = e.n
        · subst q; rw [show ({ W with me := updZ W.me e.n (some e.m) } : Wd).me e.n = some e.m from updZ_same _ _ _] at hm; cases hm; exact b3
        · rw [show ({ W with me := updZ W.me e.n (some e.m) } : Wd).me f = W.me f from updZ_ne _ _ q] at hm; exact g.mem f m hm
    · split at h
      · split at h
        · split at h
          · cases h; exact g.up1 (f := setBoots) (fun _ => rfl) (fun _ => rfl) (fun _ => rfl) _
          · cases h
        · cases h
      · split at h
        · split at h
          · split at h
            · cases h; exact g.up1 (f := setFree) (fun _ => rfl) (fun _ => rfl) (fun _ => rfl) _
            · cases h
          · cases h
        · split at h
          · split at h
            · cases h; exact g.drp _
            · cases h
          · split at h
            · cases h
              have hs : (W.L.filter (fun b => b.ho != e.n)).Sublist W.L := List.filter_sublist
              refine ⟨Nat.le_trans hs.length_le g.len, g.nx1, g.nxN, fun b hb => g.ids b (hs.subset hb), g.dis.sublist hs, fun b hb => g.fns b (hs.subset hb), g.mem, fun x => ?_, fun b hb => g.wfs b (hs.subset hb)⟩
              show 0 ≤ upI W.sz e.n 0 x ∧ upI W.sz e.n 0 x ≤ 2147483647
              by_cases q : x = e.n
              · subst q; rw [upI_same]; omega
              · rw [upI_ne _ _ q]; exact g.szs x
            · cases h; exact g
theorem Gd.clo {W W' : Wd} {N : Nat} (g : Gd W N) {e : Ev} {a : An} {cs : List Cmd} (h : clo W e a cs = some W') : Gd W' N := by
  unfold U.clo at h
  split at h
  · cases h; exact g
  · split at h
    · split at h
      · cases h; exact g
      · cases h
    · split at h
      · split at h
        · cases h; exact g.up1 (f := setBusy) (fun _ => rfl) (fun _ => rfl) (fun _ => rfl) _
        · cases h
      · cases h
theorem Gd.stp {W W' : Wd} {N : Nat} (g : Gd W N) {s : Stp} (hw : ∀ c ∈ s.2.2, cwf c) (h : stp W s = some W') : Gd W' (N + s.2.2.length) := by
  unfold U.stp at h
  split at h
  · cases h
  · rename_i hr
    have hr1 : right s.1 := by
      cases Classical.em (right s.1) with
      | inl q => exact q
      | inr q => exact absurd (Or.inl q) hr
    split at h
    · split at h
      · cases h; exact g.up (by omega)
      · cases h
    · split at h
      · cases h
      · split at h
        · cases h
        · rename_i W1 h1
          split at h
          · cases h
          · rename_i W2 h2
            exact ((g.hap hr1 h1).cmds hw h2).clo h
end Go.Proofs.Ytgpookphacdgoaa.W.U
