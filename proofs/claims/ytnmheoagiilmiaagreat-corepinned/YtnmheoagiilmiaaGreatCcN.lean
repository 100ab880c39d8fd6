import Derived.Test.YtnmheoagiilmiaaGreatCaA
import Derived.Deep.Slices
import Derived.ChangeOld
import Derived.ChangeArms
import Derived.Lib.SmallJoins
import Derived.Test.YtnmheoagiilmiaaGreatCcK
import Derived.BigQuiet
import Derived.Test.YtnmheoagiilmiaaGreatCcM
/- A part of what core's laws stand on. -/
set_option linter.unusedVariables false
set_option linter.unusedSimpArgs false
namespace Go.Proofs.YtnmheoagiilmiaaGreat.W
open Go.RowKit
abbrev zs (Z:Nat→Int) (m:Nat):List Value:=(List.range m).map (fun j=>Value.int .i64 (Z j))
theorem zs_at (Z:Nat→Int) {m j:Nat} (h:j<m):(zs Z m)[j]?=some (.int .i64 (Z j)):=by
 rw [List.getElem?_map,List.getElem?_range h];rfl
theorem Lies.num {w:World} {B m:Nat} {A:Option Addr} {Z:Nat→Int} (h:Lies w B A (zs Z m)) {j:Nat} (hj:j<m):∃ ad,A=some ad∧ad.block<B∧∀ i,i<m→w.cell? (ad.add i)=some (.int .i64 (Z i)):=by
 obtain ⟨ad,h1,h2,h3⟩:=h.some_ (by simp;omega)
 exact ⟨ad,h1,h2,fun i hi=>h3 i _ (zs_at Z hi)⟩
theorem cell_in {w:World} {ad:Addr} {i c:Nat} {v:Value} (h:w.cell? (ad.add (i+(c+1)))=some v):w.cell? ⟨(ad.add i).block,(ad.add i).off+(c+1),none⟩=some v:=by
 rw [←add_two] at h
 simpa [Addr.add] using h
theorem open_nums {H:Type} {enc:TypeId×Value→H} {P:Program} {w:World} {base:Nat} {spare:Nat→Bool} {held:Bool} {t e:TypeId} {fs:Array Field} {N fuel:Nat} {cs:List Value} {x:DataW H×List MemPlace}
  (ht:P.underlying t=some (.slice e)) (he:P.underlying e=some (.struct fs)) (hN:P.cellsOf e=N) (hfs:fs.size=N) (hN0:0<N)
  (hf:∀ (i:Nat) (f:Field),fs[i]?=some f→P.underlying f.type=some (.int .i64)∧f.offset=i∧P.cellsOf f.type=1) (h:DataW.trod enc P w base spare held fuel t cs=some x) :
  cs=[.slice none 0 0]∨∃ (a:Addr) (len cap:Nat) (Z:Nat→Int),cs=[.slice (some a) len cap]∧len≤cap∧cap≤maxLen∧Lies w w.heap.size (some a) (zs Z (len*N))∧∀ j,j<len*N→(Lit.int .i64 (Z j)).wf=true:=by
 rcases Go.Deep.open_slice ht h with ⟨h0,_⟩ | ⟨a,len,cap,m,n,D,Pl,h1,_,h3,h4,h5,_,h7⟩
 ·exact Or.inl h0
 right
 have hml:len≤m:=by rw [h5];split <;> omega
 have key:∀ j,j<len*N→∃ z,w.cell? (a.add j)=some (.int .i64 z)∧(Lit.int .i64 z).wf=true:=by
  intro j hj
  have hi:j / N<len:=(Nat.div_lt_iff_lt_mul hN0).2 hj
  have hc:j % N<N:=Nat.mod_lt _ hN0
  obtain ⟨cs',g1,g2⟩:=h7 (j / N) (by omega)
  obtain ⟨xs,n',_,_,g3,g4,g5⟩:=DataW.trod_struct he g2
  obtain ⟨f,hff⟩:∃ f,fs[j % N]?=some f:=⟨_,Array.getElem?_eq_getElem (by omega)⟩
  obtain ⟨u1,u2,u3⟩:=hf _ _ hff
  have g6:=g5 _ _ hff
  rw [List.getElem?_eq_getElem (by omega)] at g6
  obtain ⟨z,g7,_,g8⟩:=DataW.trod_int u1 g6
  rw [u2,u3] at g7
  refine ⟨z,?_,g8⟩
  obtain ⟨_,k1,k2⟩:=World.cells?_some g1
  have k3:cs'[j % N]?=some (.int .i64 z):=by
   have:=congrArg (fun l=>l[0]?) g7
   simpa [List.getElem?_take,List.getElem?_drop] using this
  have k4:=k2 (j % N) (by omega)
  rw [k3,hN,add_two] at k4
  rw [←k4];congr 2
  rw [Nat.mul_comm];exact (Nat.div_add_mod j N).symm
 obtain ⟨Z,hZ⟩:=Go.Deep.choose_lt key
 refine ⟨a,len,cap,Z,h1,h3,h4,?_,fun j hj=>(hZ j hj).2⟩
 intro j u hu
 have hj:j<len*N:=by have:=(List.getElem?_eq_some_iff.1 hu).1;simpa using this
 rw [zs_at Z hj] at hu
 cases hu
 exact ⟨a,rfl,by have:=cell_lt (hZ j hj).1;rwa [blk_add] at this,(hZ j hj).1⟩
end Go.Proofs.YtnmheoagiilmiaaGreat.W
namespace Go.Proofs.YtnmheoagiilmiaaGreat.W
open Go.RowKit Go.ChangeShapes Go.WideShapes Go.ChangeAt Go.Joins
theorem open_aggN {H:Type} {enc:TypeId×Value→H} {P:Program} {w:World} {base:Nat} {spare:Nat→Bool} {held:Bool} {t:TypeId} {fs:Array Field} {N b0:Nat} {r:Reach} {v:Value} {d:DataW H} {p:List MemPlace}
  (ht:P.underlying t=some (.struct fs)) (hN:P.cellsOf t=N) (hfs:fs.size=N)
  (hf:∀ (i:Nat) (f:Field),fs[i]?=some f→P.underlying f.type=some (.int .i64)∧f.offset=i∧P.cellsOf f.type=1) (hv:Value.okWide P w r b0 t v) (h:DataW.Trod enc P w base spare held t v d p) :
  ∃ Z:Nat→Int,v=.agg (zs Z N).toArray∧∀ j,j<N→(Lit.int .i64 (Z j)).wf=true:=by
 obtain ⟨cs,rfl,hsz⟩:=okWide_struct ht hv
 obtain ⟨fuel,hx⟩:=h
 obtain ⟨xs,n',_,_,g3,g4,g5⟩:=DataW.trod_struct ht hx
 have hcs:cs.size=N:=hsz.trans hN
 have key:∀ j,j<N→∃ z,cs[j]?=some (.int .i64 z)∧(Lit.int .i64 z).wf=true:=by
  intro j hj
  obtain ⟨f,hff⟩:∃ f,fs[j]?=some f:=⟨_,Array.getElem?_eq_getElem (by omega)⟩
  obtain ⟨u1,u2,u3⟩:=hf _ _ hff
  have g6:=g5 _ _ hff
  rw [List.getElem?_eq_getElem (by omega)] at g6
  obtain ⟨z,g7,_,g8⟩:=DataW.trod_int u1 g6
  rw [u2,u3] at g7
  refine ⟨z,?_,g8⟩
  have k3:=congrArg (fun l=>l[0]?) g7
  simpa [Value.cells,List.getElem?_take,List.getElem?_drop] using k3
 obtain ⟨Z,hZ⟩:=Go.Deep.choose_lt key
 refine ⟨Z,?_,fun j hj=>(hZ j hj).2⟩
 congr 1
 apply Array.ext_getElem?
 intro j
 rcases Nat.lt_or_ge j N with q | q
 ·rw [(hZ j q).1]
  simp [zs_at Z q]
 ·rw [Array.getElem?_eq_none (by omega),Array.getElem?_eq_none (by simpa using q)]
end Go.Proofs.YtnmheoagiilmiaaGreat.W
namespace Go.Proofs.YtnmheoagiilmiaaGreat.W.C
open Go.RowKit Go.Proofs.YtnmheoagiilmiaaGreat.W
theorem account_err {s:St} {e:Ev} (h:(s.account e).2≠0):(s.account e).1=s∧1≤(s.account e).2∧(s.account e).2≤4:=by
 unfold St.account at h ⊢
 by_cases a:1000<e.s∨1000<e.r
 ·rw [if_pos a];exact ⟨rfl,by show (1:Int)≤1;omega,by show (1:Int)≤4;omega⟩
 ·rw [if_neg a] at h ⊢
  by_cases b:accC s.F e.n e.l≠0
  ·rw [if_pos b]
   refine ⟨rfl,?_⟩
   show (1:Int)≤(accC s.F e.n e.l:Int)∧(accC s.F e.n e.l:Int)≤4
   have:accC s.F e.n e.l≤4:=by unfold accC;split <;> (try split) <;> omega
   omega
  ·rw [if_neg b] at h;exact absurd rfl h
theorem funC_le (A:Int→Option Nat) (F:Int→Option Fn) (f x n:Int):funC A F f x n≤4:=by
 unfold funC
 split
 ·cases A x with
  | none=>show (2:Nat)≤4;omega
  | some lim =>
   cases F f with
   | none=>dsimp only;split <;> omega
   | some v=>dsimp only;split <;> (try split) <;> omega
 ·omega
theorem func_err {s:St} {e:Ev} (h:(s.func e).2≠0):(s.func e).1=s∧1≤(s.func e).2∧(s.func e).2≤4:=by
 unfold St.func at h ⊢
 by_cases a:funE s e=0
 ·rw [if_pos a] at h;exact absurd rfl h
 ·rw [if_neg a]
  refine ⟨rfl,?_⟩
  show 1≤funE s e∧funE s e≤4
  unfold funE at a ⊢
  have h4:=funC_le s.A s.F e.n e.a e.v
  split
  ·omega
  ·rename_i b1
   rw [if_neg b1] at a
   split
   ·omega
   ·rename_i b2
    rw [if_neg b2] at a
    split
    ·omega
    ·rename_i b3
     rw [if_neg b3] at a
     split
     ·omega
     ·rename_i b4
      rw [if_neg b4] at a
      omega
theorem addHost_err {s:St} {x z:Int} (h:(s.addHost x z).2≠0):(s.addHost x z).1=s∧1≤(s.addHost x z).2∧(s.addHost x z).2≤4:=by
 unfold St.addHost at h ⊢
 by_cases a:addC s.H x z=0
 ·rw [if_pos a] at h;exact absurd rfl h
 ·rw [if_neg a]
  refine ⟨rfl,?_⟩
  show 1≤addC s.H x z∧addC s.H x z≤4
  unfold addC at a ⊢
  split
  ·omega
  ·rename_i b1
   rw [if_neg b1] at a
   split
   ·omega
   ·rename_i b2;rw [if_neg b2] at a;omega
theorem drain_err {s:St} {x:Int} (h:(s.drain x).2≠0):(s.drain x).1=s∧1≤(s.drain x).2∧(s.drain x).2≤4:=by
 unfold St.drain at h ⊢
 by_cases a:drC s.H x=0
 ·rw [if_pos a] at h;exact absurd rfl h
 ·rw [if_neg a]
  refine ⟨rfl,?_⟩
  show 1≤drC s.H x∧drC s.H x≤4
  unfold drC at a ⊢
  cases q:s.H x with
  | none=>dsimp only;omega
  | some v =>
   obtain ⟨d,u,y⟩:=v
   rw [q] at a
   cases d with
   | false=>exact absurd rfl a
   | true=>dsimp only;omega
theorem fail_err {s:St} {x:Int} (h:(s.fail x).2≠0):(s.fail x).1=s∧1≤(s.fail x).2∧(s.fail x).2≤4:=by
 unfold St.fail at h ⊢
 by_cases a:(s.H x).isSome=true
 ·rw [if_pos a] at h;exact absurd rfl h
 ·rw [if_neg a];exact ⟨rfl,by show (1:Int)≤2;omega,by show (2:Int)≤4;omega⟩
theorem booted_err {s:St} {i:Int} (h:(s.booted i).2≠0):(s.booted i).1=s∧1≤(s.booted i).2∧(s.booted i).2≤4:=by
 unfold St.booted at h ⊢
 by_cases a:(nx 1 (s.B i) s.now).2=true
 ·rw [if_pos a] at h;exact absurd rfl h
 ·rw [if_neg a];exact ⟨rfl,by show (1:Int)≤3;omega,by show (3:Int)≤4;omega⟩
theorem done_err {s:St} {i:Int} (h:(s.done i).2≠0):(s.done i).1=s∧1≤(s.done i).2∧(s.done i).2≤4:=by
 unfold St.done at h ⊢
 by_cases a:(nx 2 (s.B i) s.now).2=true
 ·rw [if_pos a] at h;exact absurd rfl h
 ·rw [if_neg a];exact ⟨rfl,by show (1:Int)≤3;omega,by show (3:Int)≤4;omega⟩
theorem tend_err {s:St} {e:Ev} (h:(s.tend e).2≠0):(s.tend e).1=s∧1≤(s.tend e).2∧(s.tend e).2≤4:=by
 unfold St.tend at h ⊢
 by_cases a:(s.mx.a e.n).isSome=true
 ·rw [if_pos a] at h ⊢
  by_cases b:e.k=7
  ·rw [if_pos b] at h ⊢;exact booted_err h
  ·rw [if_neg b] at h ⊢
   by_cases c:e.k=9
   ·rw [if_pos c] at h ⊢;exact done_err h
   ·rw [if_neg c] at h;exact absurd rfl h
 ·rw [if_neg a];exact ⟨rfl,by show (1:Int)≤2;omega,by show (2:Int)≤4;omega⟩
theorem turn_err {s:St} {e:Ev} (h:(s.turn e).2≠0):(s.turn e).1=s∧1≤(s.turn e).2∧(s.turn e).2≤4:=by
 unfold St.turn at h ⊢
 by_cases h1:e.k=1
 ·rw [if_pos h1] at h ⊢;exact account_err h
 rw [if_neg h1] at h ⊢
 by_cases h2:e.k=2
 ·rw [if_pos h2] at h ⊢;exact func_err h
 rw [if_neg h2] at h ⊢
 by_cases h3:e.k=3
 ·rw [if_pos h3] at h ⊢;exact addHost_err h
 rw [if_neg h3] at h ⊢
 by_cases h4:e.k=4
 ·rw [if_pos h4] at h ⊢;exact drain_err h
 rw [if_neg h4] at h ⊢
 by_cases h5:e.k=5
 ·rw [if_pos h5] at h ⊢;exact fail_err h
 rw [if_neg h5] at h ⊢
 by_cases h6:e.k=7∨e.k=8∨e.k=9
 ·rw [if_pos h6] at h ⊢;exact tend_err h
 rw [if_neg h6] at h;exact absurd rfl h
def OkA (a:Ans):Prop:=a=(0,0,0,0)∨(∃ e,1≤e∧e≤4∧a=(1,0,0,e))∨(∃ k i,(k=2∨k=3)∧1≤i∧i<536870912∧a=(k,i,0,0))∨∃ y,1≤y∧y≤4∧a=(4,0,y,0)
theorem cold_ok {K:Nat} {s:St} (h:Inv (K+1) 0 s) {f:Int} {g:Fu} (eg:s.fu.a f=some g):OkA (s.cold f).2∧(s.cold f).2.1≠1:=by
 have hI:=h.cold eg
 have hR:=h.room g.mem
 unfold St.cold at hI ⊢
 rw [St.G_of eg] at hI ⊢
 dsimp only at hI ⊢
 by_cases a:((s.tk.a g.acc).getD (0,0,0)).2.2=0
 ·rw [if_pos a];exact ⟨Or.inr (Or.inr (Or.inr ⟨3,by omega,by omega,rfl⟩)),by show (4:Int)≠1;omega⟩
 ·rw [if_neg a] at hI ⊢
  obtain ⟨s1,x⟩:∃ x,x=s.room g.mem:=⟨_,rfl⟩
  rw [←x] at hI hR ⊢
  obtain ⟨u,o⟩:=s1
  cases o with
  | none=>exact ⟨Or.inr (Or.inr (Or.inr ⟨4,by omega,by omega,rfl⟩)),by show (4:Int)≠1;omega⟩
  | some h' =>
   have h1:=hI.last
   have h2:=hR.1.last
   have h3:u.last+1<536870912:=by have:(u.last+1)+(K:Int)<536870912:=h1.2;omega
   have h4:0≤u.last:=h2.1
   exact ⟨Or.inr (Or.inr (Or.inl ⟨3,u.last+1,Or.inr rfl,by omega,h3,rfl⟩)),by show (3:Int)≠1;omega⟩
theorem call_ok {K:Nat} {s:St} (h:Inv (K+1) 0 s) (f:Int):OkA (s.call f).2∧((s.call f).2.1=1→(s.call f).1=s):=by
 unfold St.call
 by_cases hf:(s.fu.a f).isSome=true
 ·rw [if_pos hf]
  obtain ⟨g,eg⟩:=Option.isSome_iff_exists.1 hf
  by_cases a:(askC s.A s.F f).1=1
  ·rw [if_pos a];exact ⟨Or.inr (Or.inr (Or.inr ⟨1,by omega,by omega,rfl⟩)),fun q=>rfl⟩
  ·rw [if_neg a]
   by_cases b:(askC s.A s.F f).1=2
   ·rw [if_pos b];exact ⟨Or.inr (Or.inr (Or.inr ⟨2,by omega,by omega,rfl⟩)),fun q=>rfl⟩
   ·rw [if_neg b]
    cases q:s.fresh f with
    | none =>
     have:=cold_ok h eg
     exact ⟨this.1,fun q=>absurd q this.2⟩
    | some i =>
     obtain ⟨b,hb,_⟩:=h.fresh eg q
     have h1:=h.bx i b hb
     have h2:=h.last
     refine ⟨Or.inr (Or.inr (Or.inl ⟨2,i,Or.inl rfl,h1.2.1,?_,rfl⟩)),fun q=>?_⟩
     ·have:=h1.2.2.1
      omega
     ·have:(2:Int)=1:=q
      omega
 ·rw [if_neg hf];exact ⟨Or.inr (Or.inl ⟨2,by omega,by omega,rfl⟩),fun _=>rfl⟩
theorem ans_okA {K:Nat} {s:St} (h:Inv (K+1) 0 s) (e:Ev):OkA (s.answer e).2∧((s.answer e).2.1=1→(s.answer e).1=s):=by
 unfold St.answer
 by_cases h6:e.k=6
 ·rw [if_pos h6];exact call_ok h _
 ·rw [if_neg h6]
  dsimp only
  by_cases h0:(s.turn e).2=0
  ·rw [if_pos h0];exact ⟨Or.inl rfl,fun q=>by have:(0:Int)=1:=q;omega⟩
  ·rw [if_neg h0]
   obtain ⟨h1,h2,h3⟩:=turn_err h0
   exact ⟨Or.inr (Or.inl ⟨_,h2,h3,rfl⟩),fun _=>h1⟩
theorem doE_ok {K:Nat} {s:St} (h:Inv (K+64064) 0 s) (e:Ev):OkA (s.doE e).2.1:=by
 by_cases q:right e
 ·rw [St.doE_right q];exact (ans_okA (K:=0) (h.mono (by omega) (Nat.le_refl _)) e).1
 ·rw [St.doE_not q];exact Or.inr (Or.inl ⟨1,by omega,by omega,rfl⟩)
theorem doE_out {s:St} (ho:s.out=[]) (e:Ev):(s.doE e).1.out=[]:=by
 by_cases q:right e
 ·rw [St.doE_right q];rfl
 ·rw [St.doE_not q];exact ho
end Go.Proofs.YtnmheoagiilmiaaGreat.W.C
namespace Go.Proofs.YtnmheoagiilmiaaGreat.W.C
open Go.RowKit Go.Proofs.YtnmheoagiilmiaaGreat.W
attribute [local go_sem] Oper.semAt_some
structure Pr (w wr:World) (o1 o2:Nat→Option Tag) (c1 c2:Nat) (s1 s2:St):Prop where
 k1:Wk wr o1 c1 s1
 k2:Wk wr o2 c2 s2
 ap:∀ j,o1 j≠none→o2 j=none
 f1:Far w o1 wr
 f2:Far w o2 wr
theorem Pr.side {w wr w':World} {o1 o2:Nat→Option Tag} {c1 c2:Nat} {s1 s2:St} (h:Pr w wr o1 o2 c1 c2 s1 s2) {S:Nat→Prop} (o:Only wr w' S) (hS:∀ j,S j→o1 j=none∧o2 j=none∧w.heap.size≤j):Pr w w' o1 o2 c1 c2 s1 s2 :=
 ⟨h.k1.side o (fun j q=>(hS j q).1),h.k2.side o (fun j q=>(hS j q).2.1),h.ap,h.f1.side o (fun j q=>(hS j q).2.2),h.f2.side o (fun j q=>(hS j q).2.2)⟩
theorem Pr.grow {w wr w':World} {o1 o2:Nat→Option Tag} {c1 c2:Nat} {s1 s2:St} (h:Pr w wr o1 o2 c1 c2 s1 s2) (o:Only wr w' (fun _=>False)):Pr w w' o1 o2 c1 c2 s1 s2:=h.side o (fun _ q=>q.elim)
theorem Pr.fresh {w wr:World} {o1 o2:Nat→Option Tag} {c1 c2:Nat} {s1 s2:St} (h:Pr w wr o1 o2 c1 c2 s1 s2) {j:Nat} (hj:wr.heap.size≤j):o1 j=none∧o2 j=none∧w.heap.size≤j:=⟨h.k1.fresh hj,h.k2.fresh hj,by have:=h.f1.1.size;omega⟩
theorem Pr.swap {w wr:World} {o1 o2:Nat→Option Tag} {c1 c2:Nat} {s1 s2:St} (h:Pr w wr o1 o2 c1 c2 s1 s2):Pr w wr o2 o1 c2 c1 s2 s1 :=
 ⟨h.k2,h.k1,fun j q=>by
  cases e:o1 j with
  | none=>rfl
  | some t=>exact absurd (h.ap j (by rw [e];simp)) q,h.f2,h.f1⟩
theorem Pr.d1 {w wr w':World} {o1 o2:Nat→Option Tag} {c1 c2:Nat} {s1 s2:St} (h:Pr w wr o1 o2 c1 c2 s1 s2) {r:St×Ans×List Cmd} {sv:Value} (d:DoW wr o1 c1 r sv w') :
  ∃ o1' G,Pr w w' o1' o2 c1 c2 r.1 s2∧Only wr w' (fun j=>o1 j≠none)∧Its cmdC 4 44 w' sv G r.2.2.length (outT r.2.2)∧∀ g,G=some g→o1' g=none∧o2 g=none:=by
 obtain ⟨o1',G,k,n,i,hg⟩:=d
 refine ⟨o1',G,⟨k,h.k2.side n.only (fun j q=>h.ap j q),fun j q=>?_,h.f1.nx n,h.f2.side n.only (fun j q=>h.f1.2 j q)⟩,n.only,i,fun g e=>⟨(hg g e).1,?_⟩⟩
 ·rcases n.new j q with e | e
  ·exact h.ap j e
  ·exact h.k2.fresh e
 ·rcases (hg g e).2 with e | e
  ·exact h.ap g e
  ·exact h.k2.fresh e
theorem Pr.new {w w1 w2 w3:World} {o1 o2:Nat→Option Tag} {c1 c2:Nat} (b1:Below w.heap.size w w1) (k1:Wk w2 o1 c1 St.zero) (g1:∀ j,o1 j≠none→w1.heap.size≤j) (b2:Below w1.heap.size w1 w2)
  (k2:Wk w3 o2 c2 St.zero) (g2:∀ j,o2 j≠none→w2.heap.size≤j) (b3:Below w2.heap.size w2 w3):Pr w w3 o1 o2 c1 c2 St.zero St.zero:=by
 have e1:=b1.size
 have e2:=b2.size
 have b02:Below w.heap.size w w2:=b1.trans (b2.mono e1)
 have b03:Below w.heap.size w w3:=b02.trans (b3.mono (by omega))
 refine ⟨k1.below b3,k2,fun j q=>?_,⟨b03,fun j q=>by have:=g1 j q;omega⟩,⟨b03,fun j q=>by have:=g2 j q;omega⟩⟩
 cases e:o2 j with
 | none=>rfl
 | some t =>
  have h1:=g2 j (by rw [e];simp)
  have h2:=k1.lt q
  omega
end Go.Proofs.YtnmheoagiilmiaaGreat.W.C
