import Derived.Test.YthdengocipfgiaaGreatCaA
import Derived.Deep.Slices
import Derived.ChangeOld
import Derived.ChangeArms
import Derived.Lib.SmallJoins
import Derived.Test.YthdengocipfgiaaGreatCcK
import Derived.BigQuiet
import Derived.Test.YthdengocipfgiaaGreatCcM
/- A part of what core's laws stand on. -/
set_option linter.unusedVariables false
set_option linter.unusedSimpArgs false
namespace Go.Proofs.YthdengocipfgiaaGreat.W
open Go.RowKit
abbrev zs (Z:Nat→Int) (m:Nat):List Value:=(List.range m).map (fun j=>Value.int .i64 (Z j))
theorem zs_at (Z:Nat→Int) {m j:Nat} (h:j<m):(zs Z m)[j]?=some (.int .i64 (Z j)):=by
 rw [List.getElem?_map,List.getElem?_range h];rfl
theorem Lies.num {w:World} {B m:Nat} {A:Option Addr} {Z:Nat→Int} (h:Lies w B A (zs Z m)) {j:Nat} (hj:j<m):∃ ad,A=some ad∧ad.block<B∧∀ i,i<m→w.cell? (ad.add i)=some (.int .i64 (Z i)):=by
 obtain ⟨ad,h1,h2,h3⟩:=h.some_ (by simp;omega)
 exact ⟨ad,h1,h2,fun i hi=>h3 i _ (zs_at Z hi)⟩
theorem cell_in {w:World} {ad:Addr} {i c:Nat} {v:Value} (h:w.cell? (ad.add (i+(c+1)))=some v):w.cell? ⟨(ad.add i).block,(ad.add i).off+(c+1),none⟩=some v:=by
 rw [←add_two] at h
 simpa [Addr.add] using h
theorem open_nums {H:Type} {enc:TypeId×Value→H} {P:Program} {w:World} {base:Nat} {spare:Nat→Bool} {held:Bool} {t e:TypeId} {fs:Array Field} {N fuel:Nat} {cs:List Value} {x:DataW H×List MemPlace}
  (ht:P.underlying t=some (.slice e)) (he:P.underlying e=some (.struct fs)) (hN:P.cellsOf e=N) (hfs:fs.size=N) (hN0:0<N)
  (hf:∀ (i:Nat) (f:Field),fs[i]?=some f→P.underlying f.type=some (.int .i64)∧f.offset=i∧P.cellsOf f.type=1) (h:DataW.trod enc P w base spare held fuel t cs=some x) :
  cs=[.slice none 0 0]∨∃ (a:Addr) (len cap:Nat) (Z:Nat→Int),cs=[.slice (some a) len cap]∧len≤cap∧cap≤maxLen∧Lies w w.heap.size (some a) (zs Z (len*N))∧∀ j,j<len*N→(Lit.int .i64 (Z j)).wf=true:=by
 rcases Go.Deep.open_slice ht h with ⟨h0,_⟩ | ⟨a,len,cap,m,n,D,Pl,h1,_,h3,h4,h5,_,h7⟩
 ·exact Or.inl h0
 right;have hml:len≤m:=by rw [h5];split <;> omega
 have key:∀ j,j<len*N→∃ z,w.cell? (a.add j)=some (.int .i64 z)∧(Lit.int .i64 z).wf=true:=by
  intro j hj;have hi:j / N<len:=(Nat.div_lt_iff_lt_mul hN0).2 hj;have hc:j % N<N:=Nat.mod_lt _ hN0;obtain ⟨cs',g1,g2⟩:=h7 (j / N) (by omega)
  obtain ⟨xs,n',_,_,g3,g4,g5⟩:=DataW.trod_struct he g2;obtain ⟨f,hff⟩:∃ f,fs[j % N]?=some f:=⟨_,Array.getElem?_eq_getElem (by omega)⟩
  obtain ⟨u1,u2,u3⟩:=hf _ _ hff;have g6:=g5 _ _ hff;rw [List.getElem?_eq_getElem (by omega)] at g6
  obtain ⟨z,g7,_,g8⟩:=DataW.trod_int u1 g6;rw [u2,u3] at g7;refine ⟨z,?_,g8⟩;obtain ⟨_,k1,k2⟩:=World.cells?_some g1
  have k3:cs'[j % N]?=some (.int .i64 z):=by
   have:=congrArg (fun l=>l[0]?) g7
   simpa [List.getElem?_take,List.getElem?_drop] using this
  have k4:=k2 (j % N) (by omega)
  rw [k3,hN,add_two] at k4;rw [←k4];congr 2;rw [Nat.mul_comm];exact (Nat.div_add_mod j N).symm
 obtain ⟨Z,hZ⟩:=Go.Deep.choose_lt key;refine ⟨a,len,cap,Z,h1,h3,h4,?_,fun j hj=>(hZ j hj).2⟩;intro j u hu;have hj:j<len*N:=by have:=(List.getElem?_eq_some_iff.1 hu).1;simpa using this
 rw [zs_at Z hj] at hu
 cases hu
 exact ⟨a,rfl,by have:=cell_lt (hZ j hj).1;rwa [blk_add] at this,(hZ j hj).1⟩
end Go.Proofs.YthdengocipfgiaaGreat.W
namespace Go.Proofs.YthdengocipfgiaaGreat.W.C
open Go.RowKit Go.Proofs.YthdengocipfgiaaGreat.W
theorem doE_out {s:St} (ho:s.out=[]) (e:Ev):(s.doE e).1.out=[]:=by
 by_cases q:right e
 ·rw [St.doE_right q];rfl
 ·rw [St.doE_not q];exact ho
end Go.Proofs.YthdengocipfgiaaGreat.W.C
namespace Go.Proofs.YthdengocipfgiaaGreat.W.C
open Go.RowKit Go.Proofs.YthdengocipfgiaaGreat.W
attribute [local go_sem] Oper.semAt_some
structure Pr (w wr:World) (o1 o2:Nat→Option Tag) (c1 c2:Nat) (s1 s2:St):Prop where
 k1:Wk wr o1 c1 s1
 k2:Wk wr o2 c2 s2
 ap:∀ j,o1 j≠none→o2 j=none
 f1:Far w o1 wr
 f2:Far w o2 wr
theorem Pr.side {w wr w':World} {o1 o2:Nat→Option Tag} {c1 c2:Nat} {s1 s2:St} (h:Pr w wr o1 o2 c1 c2 s1 s2) {S:Nat→Prop} (o:Only wr w' S) (hS:∀ j,S j→o1 j=none∧o2 j=none∧w.heap.size≤j):Pr w w' o1 o2 c1 c2 s1 s2 :=
 ⟨h.k1.side o (fun j q=>(hS j q).1),h.k2.side o (fun j q=>(hS j q).2.1),h.ap,h.f1.side o (fun j q=>(hS j q).2.2),h.f2.side o (fun j q=>(hS j q).2.2)⟩
theorem Pr.grow {w wr w':World} {o1 o2:Nat→Option Tag} {c1 c2:Nat} {s1 s2:St} (h:Pr w wr o1 o2 c1 c2 s1 s2) (o:Only wr w' (fun _=>False)):Pr w w' o1 o2 c1 c2 s1 s2:=h.side o (fun _ q=>q.elim)
theorem Pr.fresh {w wr:World} {o1 o2:Nat→Option Tag} {c1 c2:Nat} {s1 s2:St} (h:Pr w wr o1 o2 c1 c2 s1 s2) {j:Nat} (hj:wr.heap.size≤j):o1 j=none∧o2 j=none∧w.heap.size≤j:=⟨h.k1.fresh hj,h.k2.fresh hj,by have:=h.f1.1.size;omega⟩
theorem Pr.d1 {w wr w':World} {o1 o2:Nat→Option Tag} {c1 c2:Nat} {s1 s2:St} (h:Pr w wr o1 o2 c1 c2 s1 s2) {r:St×Ans×List Cmd} {sv:Value} (d:DoW wr o1 c1 r sv w') :
  ∃ o1' G,Pr w w' o1' o2 c1 c2 r.1 s2∧Only wr w' (fun j=>o1 j≠none)∧Its cmdC 4 49 w' sv G r.2.2.length (outT r.2.2)∧∀ g,G=some g→o1' g=none∧o2 g=none:=by
 obtain ⟨o1',G,k,n,i,hg⟩:=d;refine ⟨o1',G,⟨k,h.k2.side n.only (fun j q=>h.ap j q),fun j q=>?_,h.f1.nx n,h.f2.side n.only (fun j q=>h.f1.2 j q)⟩,n.only,i,fun g e=>⟨(hg g e).1,?_⟩⟩
 ·rcases n.new j q with e | e
  ·exact h.ap j e
  ·exact h.k2.fresh e
 ·rcases (hg g e).2 with e | e
  ·exact h.ap g e
  ·exact h.k2.fresh e
theorem Pr.new {w w1 w2 w3:World} {o1 o2:Nat→Option Tag} {c1 c2:Nat} (b1:Below w.heap.size w w1) (k1:Wk w2 o1 c1 St.zero) (g1:∀ j,o1 j≠none→w1.heap.size≤j) (b2:Below w1.heap.size w1 w2)
  (k2:Wk w3 o2 c2 St.zero) (g2:∀ j,o2 j≠none→w2.heap.size≤j) (b3:Below w2.heap.size w2 w3):Pr w w3 o1 o2 c1 c2 St.zero St.zero:=by
 have e1:=b1.size;have e2:=b2.size;have b02:Below w.heap.size w w2:=b1.trans (b2.mono e1);have b03:Below w.heap.size w w3:=b02.trans (b3.mono (by omega))
 refine ⟨k1.below b3,k2,fun j q=>?_,⟨b03,fun j q=>by have:=g1 j q;omega⟩,⟨b03,fun j q=>by have:=g2 j q;omega⟩⟩
 cases e:o2 j with
 | none=>rfl
 | some t =>
  have h1:=g2 j (by rw [e];simp)
  have h2:=k1.lt q;omega
end Go.Proofs.YthdengocipfgiaaGreat.W.C
