import Derived.Test.YthdengocipfgiaaGreatCdA
import Derived.Test.YthdengocipfgiaaGreatCcM
import Derived.Test.YthdengocipfgiaaGreatCcP
import Derived.Test.YthdengocipfgiaaGreatCcO
/- A part of what core's laws stand on. -/
set_option linter.unusedVariables false
set_option linter.unusedSimpArgs false
namespace Go.Proofs.YthdengocipfgiaaGreat.W.C
open Go.RowKit Go.Proofs.YthdengocipfgiaaGreat.W
theorem box_at {s:St} {K e:Nat} (h:Inv K e s) {q:Nat} (hq:q<(ups s.mx s.last).length):s.bx (s.box q).id=some (s.box q)∧upQ (s.box q).q=true∧1≤(s.box q).id∧(s.box q).id≤s.last:=by
 obtain ⟨i,hi⟩:∃ i,(ups s.mx s.last)[q]=i:=⟨_,rfl⟩;have hm:i ∈ ups s.mx s.last:=by rw [←hi];exact List.getElem_mem hq
 obtain ⟨m1,m2,m3⟩:=mem_ups.1 hm;obtain ⟨b,hb,hu⟩:=h.alive m3;have hid:=(h.bx i b hb).1
 have e:s.box q=b:=by
  unfold St.box;rw [List.getD_eq_getElem?_getD,List.getElem?_eq_getElem hq,hi];exact St.B_of hb
 rw [e,hid];exact ⟨hb,hu,m1,m2⟩
theorem st1 {q:Ph} (h:q.st=1):q=.warm:=by cases q <;> first | rfl | (exact absurd h (by decide))
def Ended (s:St):Prop:=∀ q,q<(ups s.mx s.last).length→(s.T (0,(s.box q).id)).isSome=((s.box q).q.st == 1 && !(s.box q).p)
theorem Pv.ended {K e:Nat} {s:St} (P:Pv s) (h:Inv K e s):Ended s:=fun q hq=>by
 obtain ⟨b1,b2,_⟩:=box_at h hq
 cases t:s.T (0,(s.box q).id) with
 | some v =>
  obtain ⟨c,hc,hw,hp⟩:=h.T0 _ v t;rw [b1] at hc;cases hc;rw [hw,hp];rfl
 | none =>
  have hn:¬ ((s.box q).q=.warm∧(s.box q).p=false):=fun hh=>by
   have:=P.tw _ _ b1 hh.1 hh.2
   rw [t] at this;cases this
  show false=_
  cases hp:(s.box q).p with
  | true=>simp
  | false =>
   have:(s.box q).q.st≠1:=fun e=>hn ⟨st1 e,hp⟩
   simp [this]
def Fs (w:World) (o:Nat→Option Tag) (j:Nat):Prop:=o j=none∧j<w.heap.size
def Sk (w:World) (o:Nat→Option Tag) (w':World) (o':Nat→Option Tag):Prop:=∀ j,Fs w o j→Fs w' o' j∧w'.heap[j]?=w.heap[j]?
theorem Sk.nx {w w':World} {o o':Nat→Option Tag} (n:Nx w o w' o'):Sk w o w' o':=fun j h=>⟨⟨n.none h.1 h.2,by have:=n.only.size;have:=h.2;omega⟩,n.only.block j h.2 (fun q=>q h.1)⟩
theorem Sk.new {w w':World} {o:Nat→Option Tag} (k:Only w w' (fun j=>j=w.heap.size)):Sk w o w' o:=fun j h=>⟨⟨h.1,by have:=k.size;have:=h.2;omega⟩,k.block j h.2 (fun q=>by have:=h.2;omega)⟩
theorem Sk.below {w w':World} {o:Nat→Option Tag} (b:Below w.heap.size w w'):Sk w o w' o:=fun j h=>⟨⟨h.1,by have:=b.size;have:=h.2;omega⟩,b.block j h.2⟩
theorem Sk.trans {w w1 w2:World} {o p r:Nat→Option Tag} (h:Sk w o w1 p) (k:Sk w1 p w2 r):Sk w o w2 r:=fun j q=>⟨(k j (h j q).1).1,(k j (h j q).1).2.trans (h j q).2⟩
end Go.Proofs.YthdengocipfgiaaGreat.W.C
