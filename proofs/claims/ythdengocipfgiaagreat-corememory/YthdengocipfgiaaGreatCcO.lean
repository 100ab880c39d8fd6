import Derived.Test.YthdengocipfgiaaGreatCcN
import Derived.BigQuiet
/- A part of what core's laws stand on. -/
set_option linter.unusedVariables false
set_option linter.unusedSimpArgs false
namespace Go.Proofs.YthdengocipfgiaaGreat.W.C
open Go.RowKit Go.Proofs.YthdengocipfgiaaGreat.W
attribute [local go_sem] Oper.semAt_some
def Fr (w:World) (o1 o2:Nat→Option Tag) (j:Nat):Prop:=o1 j=none∧o2 j=none∧j<w.heap.size
def Sv (w:World) (o1 o2:Nat→Option Tag) (w':World) (p1 p2:Nat→Option Tag):Prop:=∀ j,Fr w o1 o2 j→Fr w' p1 p2 j∧w'.heap[j]?=w.heap[j]?
theorem Sv.new {w w':World} {o1 o2:Nat→Option Tag} (o:Only w w' (fun j=>j=w.heap.size)):Sv w o1 o2 w' o1 o2:=fun j h=>⟨⟨h.1,h.2.1,by have:=o.size;have:=h.2.2;omega⟩,o.block j h.2.2 (fun q=>by have:=h.2.2;omega)⟩
theorem Sv.below {w w':World} {o1 o2:Nat→Option Tag} (b:Below w.heap.size w w'):Sv w o1 o2 w' o1 o2:=fun j h=>⟨⟨h.1,h.2.1,by have:=b.size;have:=h.2.2;omega⟩,b.block j h.2.2⟩
theorem Sv.trans {w w1 w2:World} {o1 o2 p1 p2 r1 r2:Nat→Option Tag} (h:Sv w o1 o2 w1 p1 p2) (k:Sv w1 p1 p2 w2 r1 r2):Sv w o1 o2 w2 r1 r2:=fun j q=>⟨(k j (h j q).1).1,(k j (h j q).1).2.trans (h j q).2⟩
theorem Pr.base {w wr:World} {o1 o2:Nat→Option Tag} {c1 c2:Nat} {s1 s2:St} (h:Pr w wr o1 o2 c1 c2 s1 s2) {j:Nat} {o:Obj} (hj:w.heap[j]?=some o) (hl:j<w.heap.size):wr.heap[j]?=some o:=by rw [h.f1.1.block _ hl];exact hj
theorem box_cells {w:World} {g n cap:Nat} {T:Nat→Bo} (h:Row brow 8 43 w g n cap T) {k:Nat} (hk:k<n) :
  w.cell? ⟨g,k*8,none⟩=some (.int .i64 (T k).id)∧w.cell? ⟨g,k*8+1,none⟩=some (.int .i64 (T k).fn)∧w.cell? ⟨g,k*8+2,none⟩=some (.int .i64 (T k).ho)∧w.cell? ⟨g,k*8+3,none⟩=some (.int .i64 (T k).me) ∧
  w.cell? ⟨g,k*8+4,none⟩=some (.int .i64 (T k).q.st)∧w.cell? ⟨g,k*8+5,none⟩=some (.bool (T k).q.bd)∧w.cell? ⟨g,k*8+6,none⟩=some (.bool (T k).p)∧w.cell? ⟨g,k*8+7,none⟩=some (.int .i64 (T k).t) :=
 ⟨h.cell hk (c:=0) rfl rfl,h.cell hk (c:=1) rfl rfl,h.cell hk (c:=2) rfl rfl,h.cell hk (c:=3) rfl rfl,h.cell hk (c:=4) rfl rfl,h.cell hk (c:=5) rfl rfl,h.cell hk (c:=6) rfl rfl,h.cell hk (c:=7) rfl rfl⟩
theorem ups_le (m:Tb Unit) (n:Int):(ups m n).length≤n.toNat:=by
 unfold ups;refine Nat.le_trans (List.length_filter_le _ _) ?_;simp
end Go.Proofs.YthdengocipfgiaaGreat.W.C
