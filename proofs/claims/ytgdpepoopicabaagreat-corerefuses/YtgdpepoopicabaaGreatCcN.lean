import Derived.Test.YtgdpepoopicabaaGreatCaA
import Derived.Deep.Slices
import Derived.ChangeOld
import Derived.ChangeArms
import Derived.Lib.SmallJoins
import Derived.Test.YtgdpepoopicabaaGreatCcK
import Derived.BigQuiet
import Derived.Test.YtgdpepoopicabaaGreatCcM
/- A part of what core's laws stand on. -/
set_option linter.unusedVariables false
set_option linter.unusedSimpArgs false
set_option maxRecDepth 100000
set_option maxHeartbeats 3200000
namespace Go.Proofs.YtgdpepoopicabaaGreat.W
open Go.RowKit
abbrev zs (Z:Nat→Int) (m:Nat):List Value:=(List.range m).map (fun j=>Value.int .i64 (Z j))
theorem zs_at (Z:Nat→Int) {m j:Nat} (h:j<m):(zs Z m)[j]?=some (.int .i64 (Z j)):=by
 rw [List.getElem?_map,List.getElem?_range h];rfl
theorem Lies.num {w:World} {B m:Nat} {A:Option Addr} {Z:Nat→Int} (h:Lies w B A (zs Z m)) {j:Nat} (hj:j<m):∃ ad,A=some ad∧ad.block<B∧∀ i,i<m→w.cell? (ad.add i)=some (.int .i64 (Z i)):=by
 obtain ⟨ad,h1,h2,h3⟩:=h.some_ (by simp;omega)
 exact ⟨ad,h1,h2,fun i hi=>h3 i _ (zs_at Z hi)⟩
theorem cell_in {w:World} {ad:Addr} {i c:Nat} {v:Value} (h:w.cell? (ad.add (i+(c+1)))=some v):w.cell? ⟨(ad.add i).block,(ad.add i).off+(c+1),none⟩=some v:=by
 rw [←add_two] at h
 simpa [Addr.add] using h
theorem open_nums {H:Type} {enc:TypeId×Value→H} {P:Program} {w:World} {base:Nat} {spare:Nat→Bool} {held:Bool} {t e:TypeId} {fs:Array Field} {N fuel:Nat} {cs:List Value} {x:DataW H×List MemPlace}
  (ht:P.underlying t=some (.slice e)) (he:P.underlying e=some (.struct fs)) (hN:P.cellsOf e=N) (hfs:fs.size=N) (hN0:0<N)
  (hf:∀ (i:Nat) (f:Field),fs[i]?=some f→P.underlying f.type=some (.int .i64)∧f.offset=i∧P.cellsOf f.type=1) (h:DataW.trod enc P w base spare held fuel t cs=some x) :
  cs=[.slice none 0 0]∨∃ (a:Addr) (len cap:Nat) (Z:Nat→Int),cs=[.slice (some a) len cap]∧len≤cap∧cap≤maxLen∧Lies w w.heap.size (some a) (zs Z (len*N))∧∀ j,j<len*N→(Lit.int .i64 (Z j)).wf=true:=by
 rcases Go.Deep.open_slice ht h with ⟨h0,_⟩ | ⟨a,len,cap,m,n,D,Pl,h1,_,h3,h4,h5,_,h7⟩
 ·exact Or.inl h0
 right
 have hml:len≤m:=by rw [h5];split <;> omega
 have key:∀ j,j<len*N→∃ z,w.cell? (a.add j)=some (.int .i64 z)∧(Lit.int .i64 z).wf=true:=by
  intro j hj
  have hi:j / N<len:=(Nat.div_lt_iff_lt_mul hN0).2 hj
  have hc:j % N<N:=Nat.mod_lt _ hN0
  obtain ⟨cs',g1,g2⟩:=h7 (j / N) (by omega)
  obtain ⟨xs,n',_,_,g3,g4,g5⟩:=DataW.trod_struct he g2
  obtain ⟨f,hff⟩:∃ f,fs[j % N]?=some f:=⟨_,Array.getElem?_eq_getElem (by omega)⟩
  obtain ⟨u1,u2,u3⟩:=hf _ _ hff
  have g6:=g5 _ _ hff
  rw [List.getElem?_eq_getElem (by omega)] at g6
  obtain ⟨z,g7,_,g8⟩:=DataW.trod_int u1 g6
  rw [u2,u3] at g7
  refine ⟨z,?_,g8⟩
  obtain ⟨_,k1,k2⟩:=World.cells?_some g1
  have k3:cs'[j % N]?=some (.int .i64 z):=by
   have:=congrArg (fun l=>l[0]?) g7
   simpa [List.getElem?_take,List.getElem?_drop] using this
  have k4:=k2 (j % N) (by omega)
  rw [k3,hN,add_two] at k4
  rw [←k4];congr 2
  rw [Nat.mul_comm];exact (Nat.div_add_mod j N).symm
 obtain ⟨Z,hZ⟩:=Go.Deep.choose_lt key
 refine ⟨a,len,cap,Z,h1,h3,h4,?_,fun j hj=>(hZ j hj).2⟩
 intro j u hu
 have hj:j<len*N:=by have:=(List.getElem?_eq_some_iff.1 hu).1;simpa using this
 rw [zs_at Z hj] at hu
 cases hu
 exact ⟨a,rfl,by have:=cell_lt (hZ j hj).1;rwa [blk_add] at this,(hZ j hj).1⟩
end Go.Proofs.YtgdpepoopicabaaGreat.W
namespace Go.Proofs.YtgdpepoopicabaaGreat.W
open Go.RowKit Go.ChangeShapes Go.WideShapes Go.ChangeAt Go.Joins
theorem open_aggN {H:Type} {enc:TypeId×Value→H} {P:Program} {w:World} {base:Nat} {spare:Nat→Bool} {held:Bool} {t:TypeId} {fs:Array Field} {N b0:Nat} {r:Reach} {v:Value} {d:DataW H} {p:List MemPlace}
  (ht:P.underlying t=some (.struct fs)) (hN:P.cellsOf t=N) (hfs:fs.size=N)
  (hf:∀ (i:Nat) (f:Field),fs[i]?=some f→P.underlying f.type=some (.int .i64)∧f.offset=i∧P.cellsOf f.type=1) (hv:Value.okWide P w r b0 t v) (h:DataW.Trod enc P w base spare held t v d p) :
  ∃ Z:Nat→Int,v=.agg (zs Z N).toArray∧∀ j,j<N→(Lit.int .i64 (Z j)).wf=true:=by
 obtain ⟨cs,rfl,hsz⟩:=okWide_struct ht hv
 obtain ⟨fuel,hx⟩:=h
 obtain ⟨xs,n',_,_,g3,g4,g5⟩:=DataW.trod_struct ht hx
 have hcs:cs.size=N:=hsz.trans hN
 have key:∀ j,j<N→∃ z,cs[j]?=some (.int .i64 z)∧(Lit.int .i64 z).wf=true:=by
  intro j hj
  obtain ⟨f,hff⟩:∃ f,fs[j]?=some f:=⟨_,Array.getElem?_eq_getElem (by omega)⟩
  obtain ⟨u1,u2,u3⟩:=hf _ _ hff
  have g6:=g5 _ _ hff
  rw [List.getElem?_eq_getElem (by omega)] at g6
  obtain ⟨z,g7,_,g8⟩:=DataW.trod_int u1 g6
  rw [u2,u3] at g7
  refine ⟨z,?_,g8⟩
  have k3:=congrArg (fun l=>l[0]?) g7
  simpa [Value.cells,List.getElem?_take,List.getElem?_drop] using k3
 obtain ⟨Z,hZ⟩:=Go.Deep.choose_lt key
 refine ⟨Z,?_,fun j hj=>(hZ j hj).2⟩
 congr 1
 apply Array.ext_getElem?
 intro j
 rcases Nat.lt_or_ge j N with q | q
 ·rw [(hZ j q).1]
  simp [zs_at Z q]
 ·rw [Array.getElem?_eq_none (by omega),Array.getElem?_eq_none (by simpa using q)]
end Go.Proofs.YtgdpepoopicabaaGreat.W
namespace Go.Proofs.YtgdpepoopicabaaGreat.W.C
open Go.RowKit Go.Proofs.YtgdpepoopicabaaGreat.W
theorem account_err {s:St} {e:Ev} (h:(s.account e).2≠0):(s.account e).1=s∧1≤(s.account e).2∧(s.account e).2≤4:=by
 unfold St.account at h ⊢
 by_cases a:1000<e.s∨1000<e.r
 ·rw [if_pos a];exact ⟨rfl,by show (1:Int)≤1;omega,by show (1:Int)≤4;omega⟩
 ·rw [if_neg a] at h ⊢
  by_cases b:accC s.F e.n e.l≠0
  ·rw [if_pos b]
   refine ⟨rfl,?_⟩
   show (1:Int)≤(accC s.F e.n e.l:Int)∧(accC s.F e.n e.l:Int)≤4
   have:accC s.F e.n e.l≤4:=by unfold accC;split <;> (try split) <;> omega
   omega
  ·rw [if_neg b] at h;exact absurd rfl h
theorem funC_le (A:Int→Option Nat) (F:Int→Option Fn) (f x n:Int):funC A F f x n≤4:=by
 unfold funC
 split
 ·cases A x with
  | none=>show (2:Nat)≤4;omega
  | some lim =>
   cases F f with
   | none=>dsimp only;split <;> omega
   | some v=>dsimp only;split <;> (try split) <;> omega
 ·omega
theorem func_err {s:St} {e:Ev} (h:(s.func e).2≠0):(s.func e).1=s∧1≤(s.func e).2∧(s.func e).2≤4:=by
 unfold St.func at h ⊢
 by_cases a:funE s e=0
 ·rw [if_pos a] at h;exact absurd rfl h
 ·rw [if_neg a]
  refine ⟨rfl,?_⟩
  show 1≤funE s e∧funE s e≤4
  unfold funE at a ⊢
  have h4:=funC_le s.A s.F e.n e.a e.v
  split
  ·omega
  ·rename_i b1
   rw [if_neg b1] at a
   split
   ·omega
   ·rename_i b2
    rw [if_neg b2] at a
    split
    ·omega
    ·rename_i b3
     rw [if_neg b3] at a
     split
     ·omega
     ·rename_i b4
      rw [if_neg b4] at a
      omega
theorem addHost_err {s:St} {x z:Int} (h:(s.addHost x z).2≠0):(s.addHost x z).1=s∧1≤(s.addHost x z).2∧(s.addHost x z).2≤4:=by
 unfold St.addHost at h ⊢
 by_cases a:addC s.H x z=0
 ·rw [if_pos a] at h;exact absurd rfl h
 ·rw [if_neg a]
  refine ⟨rfl,?_⟩
  show 1≤addC s.H x z∧addC s.H x z≤4
  unfold addC at a ⊢
  split
  ·omega
  ·rename_i b1
   rw [if_neg b1] at a
   split
   ·omega
   ·rename_i b2;rw [if_neg b2] at a;omega
theorem drain_err {s:St} {x:Int} (h:(s.drain x).2≠0):(s.drain x).1=s∧1≤(s.drain x).2∧(s.drain x).2≤4:=by
 unfold St.drain at h ⊢
 by_cases a:drC s.H x=0
 ·rw [if_pos a] at h;exact absurd rfl h
 ·rw [if_neg a]
  refine ⟨rfl,?_⟩
  show 1≤drC s.H x∧drC s.H x≤4
  unfold drC at a ⊢
  cases q:s.H x with
  | none=>dsimp only;omega
  | some v =>
   obtain ⟨d,u,y⟩:=v
   rw [q] at a
   cases d with
   | false=>exact absurd rfl a
   | true=>dsimp only;omega
theorem fail_err {s:St} {x:Int} (h:(s.fail x).2≠0):(s.fail x).1=s∧1≤(s.fail x).2∧(s.fail x).2≤4:=by
 unfold St.fail at h ⊢
 by_cases a:(s.H x).isSome=true
 ·rw [if_pos a] at h;exact absurd rfl h
 ·rw [if_neg a];exact ⟨rfl,by show (1:Int)≤2;omega,by show (2:Int)≤4;omega⟩
theorem booted_err {s:St} {i:Int} (h:(s.booted i).2≠0):(s.booted i).1=s∧1≤(s.booted i).2∧(s.booted i).2≤4:=by
 unfold St.booted at h ⊢
 by_cases a:(nx 1 (s.B i) s.now).2=true
 ·rw [if_pos a] at h;exact absurd rfl h
 ·rw [if_neg a];exact ⟨rfl,by show (1:Int)≤3;omega,by show (3:Int)≤4;omega⟩
theorem done_err {s:St} {i:Int} (h:(s.done i).2≠0):(s.done i).1=s∧1≤(s.done i).2∧(s.done i).2≤4:=by
 unfold St.done at h ⊢
 by_cases a:(nx 2 (s.B i) s.now).2=true
 ·rw [if_pos a] at h;exact absurd rfl h
 ·rw [if_neg a];exact ⟨rfl,by show (1:Int)≤3;omega,by show (3:Int)≤4;omega⟩
theorem tend_err {s:St} {e:Ev} (h:(s.tend e).2≠0):(s.tend e).1=s∧1≤(s.tend e).2∧(s.tend e).2≤4:=by
 unfold St.tend at h ⊢
 by_cases a:(s.mx.a e.n).isSome=true
 ·rw [if_pos a] at h ⊢
  by_cases b:e.k=7
  ·rw [if_pos b] at h ⊢;exact booted_err h
  ·rw [if_neg b] at h ⊢
   by_cases c:e.k=9
   ·rw [if_pos c] at h ⊢;exact done_err h
   ·rw [if_neg c] at h;exact absurd rfl h
 ·rw [if_neg a];exact ⟨rfl,by show (1:Int)≤2;omega,by show (2:Int)≤4;omega⟩
theorem turn_err {s:St} {e:Ev} (h:(s.turn e).2≠0):(s.turn e).1=s∧1≤(s.turn e).2∧(s.turn e).2≤4:=by
 unfold St.turn at h ⊢
 by_cases h1:e.k=1
 ·rw [if_pos h1] at h ⊢;exact account_err h
 rw [if_neg h1] at h ⊢
 by_cases h2:e.k=2
 ·rw [if_pos h2] at h ⊢;exact func_err h
 rw [if_neg h2] at h ⊢
 by_cases h3:e.k=3
 ·rw [if_pos h3] at h ⊢;exact addHost_err h
 rw [if_neg h3] at h ⊢
 by_cases h4:e.k=4
 ·rw [if_pos h4] at h ⊢;exact drain_err h
 rw [if_neg h4] at h ⊢
 by_cases h5:e.k=5
 ·rw [if_pos h5] at h ⊢;exact fail_err h
 rw [if_neg h5] at h ⊢
 by_cases h6:e.k=7∨e.k=8∨e.k=9
 ·rw [if_pos h6] at h ⊢;exact tend_err h
 rw [if_neg h6] at h;exact absurd rfl h
def OkA (a:Ans):Prop:=a=(0,0,0,0)∨(∃ e,1≤e∧e≤4∧a=(1,0,0,e))∨(∃ k i,(k=2∨k=3)∧1≤i∧i<536870912∧a=(k,i,0,0))∨∃ y,1≤y∧y≤4∧a=(4,0,y,0)
theorem cold_ok {K:Nat} {s:St} (h:Inv (K+1) 0 s) {f:Int} {g:Fu} (eg:s.fu.a f=some g):OkA (s.cold f).2∧(s.cold f).2.1≠1:=by
 have hI:=h.cold eg
 have hR:=h.room g.mem
 unfold St.cold at hI ⊢
 rw [St.G_of eg] at hI ⊢
 dsimp only at hI ⊢
 by_cases a:((s.tk.a g.acc).getD (0,0,0)).2.2=0
 ·rw [if_pos a];exact ⟨Or.inr (Or.inr (Or.inr ⟨3,by omega,by omega,rfl⟩)),by show (4:Int)≠1;omega⟩
 ·rw [if_neg a] at hI ⊢
  obtain ⟨s1,x⟩:∃ x,x=s.room g.mem:=⟨_,rfl⟩
  rw [←x] at hI hR ⊢
  obtain ⟨u,o⟩:=s1
  cases o with
  | none=>exact ⟨Or.inr (Or.inr (Or.inr ⟨4,by omega,by omega,rfl⟩)),by show (4:Int)≠1;omega⟩
  | some h' =>
   have h1:=hI.last
   have h2:=hR.1.last
   have h3:u.last+1<536870912:=by have:(u.last+1)+(K:Int)<536870912:=h1.2;omega
   have h4:0≤u.last:=h2.1
   exact ⟨Or.inr (Or.inr (Or.inl ⟨3,u.last+1,Or.inr rfl,by omega,h3,rfl⟩)),by show (3:Int)≠1;omega⟩
theorem call_ok {K:Nat} {s:St} (h:Inv (K+1) 0 s) (f:Int):OkA (s.call f).2∧((s.call f).2.1=1→(s.call f).1=s):=by
 unfold St.call
 by_cases hf:(s.fu.a f).isSome=true
 ·rw [if_pos hf]
  obtain ⟨g,eg⟩:=Option.isSome_iff_exists.1 hf
  by_cases a:(askC s.A s.F f).1=1
  ·rw [if_pos a];exact ⟨Or.inr (Or.inr (Or.inr ⟨1,by omega,by omega,rfl⟩)),fun q=>rfl⟩
  ·rw [if_neg a]
   by_cases b:(askC s.A s.F f).1=2
   ·rw [if_pos b];exact ⟨Or.inr (Or.inr (Or.inr ⟨2,by omega,by omega,rfl⟩)),fun q=>rfl⟩
   ·rw [if_neg b]
    cases q:s.fresh f with
    | none =>
     have:=cold_ok h eg
     exact ⟨this.1,fun q=>absurd q this.2⟩
    | some i =>
     obtain ⟨b,hb,_⟩:=h.fresh eg q
     have h1:=h.bx i b hb
     have h2:=h.last
     refine ⟨Or.inr (Or.inr (Or.inl ⟨2,i,Or.inl rfl,h1.2.1,?_,rfl⟩)),fun q=>?_⟩
     ·have:=h1.2.2.1
      omega
     ·have:(2:Int)=1:=q
      omega
 ·rw [if_neg hf];exact ⟨Or.inr (Or.inl ⟨2,by omega,by omega,rfl⟩),fun _=>rfl⟩
theorem ans_okA {K:Nat} {s:St} (h:Inv (K+1) 0 s) (e:Ev):OkA (s.answer e).2∧((s.answer e).2.1=1→(s.answer e).1=s):=by
 unfold St.answer
 by_cases h6:e.k=6
 ·rw [if_pos h6];exact call_ok h _
 ·rw [if_neg h6]
  dsimp only
  by_cases h0:(s.turn e).2=0
  ·rw [if_pos h0];exact ⟨Or.inl rfl,fun q=>by have:(0:Int)=1:=q;omega⟩
  ·rw [if_neg h0]
   obtain ⟨h1,h2,h3⟩:=turn_err h0
   exact ⟨Or.inr (Or.inl ⟨_,h2,h3,rfl⟩),fun _=>h1⟩
theorem doE_ok {K:Nat} {s:St} (h:Inv (K+64064) 0 s) (e:Ev):OkA (s.doE e).2.1:=by
 by_cases q:right e
 ·rw [St.doE_right q];exact (ans_okA (K:=0) (h.mono (by omega) (Nat.le_refl _)) e).1
 ·rw [St.doE_not q];exact Or.inr (Or.inl ⟨1,by omega,by omega,rfl⟩)
theorem doE_out {s:St} (ho:s.out=[]) (e:Ev):(s.doE e).1.out=[]:=by
 by_cases q:right e
 ·rw [St.doE_right q];rfl
 ·rw [St.doE_not q];exact ho
theorem doE_ref {K:Nat} {s:St} (h:Inv (K+64064) 0 s) (ho:s.out=[]) {e:Ev} (hr:(s.doE e).2.1.1=1):(s.doE e).1=s∧(s.doE e).2.2=[]:=by
 by_cases q:right e
 ·rw [St.doE_right q] at hr ⊢
  have h1:=(ans_okA (K:=0) (h.mono (by omega) (Nat.le_refl _)) e).2 hr
  unfold St.act
  dsimp only
  rw [h1]
  refine ⟨?_,ho⟩
  cases s
  have:_=[]:=ho
  dsimp only at this
  subst this
  rfl
 ·rw [St.doE_not q];exact ⟨rfl,rfl⟩
def byS (l:List UInt8):ByteArray:=⟨l.toArray⟩
theorem byS_ne (a:UInt8) (l:List UInt8):((byS (a :: l)).toList == [])=false:=by
 rw [Lib.toList_data];rfl
theorem err_w (x:Int) (w:World) (h:x=1∨x=2∨x=3∨x=4):Calls Tryz.prog 22 #[.int .i64 x] w fun e w'=>∃ a l,e=.returned (.string (byS (a :: l)))∧Below w.heap.size w w':=by
 have b0:Below w.heap.size w w:=Below.refl _ _
 rcases h with rfl | rfl | rfl | rfl
 ·go_enter Tryz.func22,Tryz.ntmps22
  go_wp2
  go_ret
  exact ⟨97,[114,103],rfl,b0.alloc (Nat.le_refl _) _⟩
 ·go_enter Tryz.func22,Tryz.ntmps22
  go_wp2
  go_ret
  exact ⟨110,[111,110,101],rfl,b0.alloc (Nat.le_refl _) _⟩
 ·go_enter Tryz.func22,Tryz.ntmps22
  go_wp2
  go_ret
  exact ⟨115,[116,97,116,101],rfl,b0.alloc (Nat.le_refl _) _⟩
 ·go_enter Tryz.func22,Tryz.ntmps22
  go_wp2
  go_ret
  exact ⟨113,[117,111,116,97],rfl,b0.alloc (Nat.le_refl _) _⟩
theorem why_w (y:Int) (w:World) (h:y=1∨y=2∨y=3∨y=4):Calls Tryz.prog 23 #[.int .i64 y] w fun e w'=>∃ a l,e=.returned (.string (byS (a :: l)))∧w=w':=by
 rcases h with rfl | rfl | rfl | rfl
 ·go_enter Tryz.func23,Tryz.ntmps23
  go_wp2
  go_ret
  exact ⟨102,[117,110,99,116,105,111,110],rfl,rfl⟩
 ·go_enter Tryz.func23,Tryz.ntmps23
  go_wp2
  go_ret
  exact ⟨97,[99,99,111,117,110,116],rfl,rfl⟩
 ·go_enter Tryz.func23,Tryz.ntmps23
  go_wp2
  go_ret
  exact ⟨116,[111,107,101,110,115],rfl,rfl⟩
 ·go_enter Tryz.func23,Tryz.ntmps23
  go_wp2
  go_ret
  exact ⟨114,[111,111,109],rfl,rfl⟩
theorem an_new (w:World) (k b y e:Int):(w.alloc (.cells #[.int .i64 k,.int .i64 b,.int .i64 y,.int .i64 e] 29)).heap[w.heap.size]?=some (ano k b y e):=heap_alloc_new w _
theorem ans_right (a:Ans) (h:OkA a) (w:World):Calls Tryz.prog 12 #[avl a] w fun e w'=>e=.returned (.bool true)∧Below w.heap.size w w':=by
 have bA:∀ k b y e,Below w.heap.size w (w.alloc (.cells #[.int .i64 k,.int .i64 b,.int .i64 y,.int .i64 e] 29)):=fun k b y e=>(Below.refl _ _).alloc (Nat.le_refl _) _
 rcases h with rfl | ⟨e,h1,h2,rfl⟩ | ⟨k,i,hk,h1,h2,rfl⟩ | ⟨y,h1,h2,rfl⟩
 ·have b0:=bA 0 0 0 0
  clear bA
  go_enter Tryz.func12,Tryz.ntmps12
  go_wp2
  go_ret
  exact ⟨rfl,b0⟩
 ·have b0:=bA 1 0 0 e
  have hN:=an_new w 1 0 0 e
  have de:(e != 0)=true:=by simp;omega
  have HE:=Lib.hid (show e=1∨e=2∨e=3∨e=4 by omega)
  clear bA h1 h2
  go_enter Tryz.func12,Tryz.ntmps12
  go_wp2_with fail
  generalize w.alloc (.cells #[.int .i64 1,.int .i64 0,.int .i64 0,.int .i64 e] 29)=w1 at b0 hN ⊢
  with_reducible refine (err_w e w1 HE.out).mono ?_
  rintro x w2 ⟨a,l,rfl,b2⟩
  have hw:=byS_ne a l
  have hN2:=(Only.of_below (S:=fun _=>False) b2).blk (fun q=>q) hN
  have b02:Below w.heap.size w w2:=b0.trans (b2.mono b0.size)
  obtain ⟨t0,t1,t2,t3⟩:=an_cells hN2
  clear hN2 hN b0 b2
  go_wp2_with fail
  go_ret
  exact ⟨rfl,b02⟩
 ·have h3:i≤2147483647:=by omega
  clear h2
  rcases hk with rfl | rfl
  ·have b0:=bA 2 i 0 0
   clear bA
   go_enter Tryz.func12,Tryz.ntmps12
   go_wp2
   go_ret
   exact ⟨rfl,b0⟩
  ·have b0:=bA 3 i 0 0
   clear bA
   go_enter Tryz.func12,Tryz.ntmps12
   go_wp2
   go_ret
   exact ⟨rfl,b0⟩
 ·have b0:=bA 4 0 y 0
  have hN:=an_new w 4 0 y 0
  have HE:=Lib.hid (show y=1∨y=2∨y=3∨y=4 by omega)
  clear bA h1 h2
  go_enter Tryz.func12,Tryz.ntmps12
  go_wp2_with fail
  generalize w.alloc (.cells #[.int .i64 4,.int .i64 0,.int .i64 y,.int .i64 0] 29)=w1 at b0 hN ⊢
  with_reducible refine (why_w y w1 HE.out).mono ?_
  rintro x w2 ⟨a,l,rfl,rfl⟩
  have hw:=byS_ne a l
  obtain ⟨t0,t1,t2,t3⟩:=an_cells hN
  clear hN
  go_wp2_with fail
  go_ret
  exact ⟨rfl,b0⟩
end Go.Proofs.YtgdpepoopicabaaGreat.W.C
namespace Go.Proofs.YtgdpepoopicabaaGreat.W.C
open Go.RowKit Go.Proofs.YtgdpepoopicabaaGreat.W
attribute [local go_sem] Oper.semAt_some
structure Pr (w wr:World) (o1 o2:Nat→Option Tag) (c1 c2:Nat) (s1 s2:St):Prop where
 k1:Wk wr o1 c1 s1
 k2:Wk wr o2 c2 s2
 ap:∀ j,o1 j≠none→o2 j=none
 f1:Far w o1 wr
 f2:Far w o2 wr
theorem Pr.side {w wr w':World} {o1 o2:Nat→Option Tag} {c1 c2:Nat} {s1 s2:St} (h:Pr w wr o1 o2 c1 c2 s1 s2) {S:Nat→Prop} (o:Only wr w' S) (hS:∀ j,S j→o1 j=none∧o2 j=none∧w.heap.size≤j):Pr w w' o1 o2 c1 c2 s1 s2 :=
 ⟨h.k1.side o (fun j q=>(hS j q).1),h.k2.side o (fun j q=>(hS j q).2.1),h.ap,h.f1.side o (fun j q=>(hS j q).2.2),h.f2.side o (fun j q=>(hS j q).2.2)⟩
theorem Pr.grow {w wr w':World} {o1 o2:Nat→Option Tag} {c1 c2:Nat} {s1 s2:St} (h:Pr w wr o1 o2 c1 c2 s1 s2) (o:Only wr w' (fun _=>False)):Pr w w' o1 o2 c1 c2 s1 s2:=h.side o (fun _ q=>q.elim)
theorem Pr.fresh {w wr:World} {o1 o2:Nat→Option Tag} {c1 c2:Nat} {s1 s2:St} (h:Pr w wr o1 o2 c1 c2 s1 s2) {j:Nat} (hj:wr.heap.size≤j):o1 j=none∧o2 j=none∧w.heap.size≤j:=⟨h.k1.fresh hj,h.k2.fresh hj,by have:=h.f1.1.size;omega⟩
theorem Pr.swap {w wr:World} {o1 o2:Nat→Option Tag} {c1 c2:Nat} {s1 s2:St} (h:Pr w wr o1 o2 c1 c2 s1 s2):Pr w wr o2 o1 c2 c1 s2 s1 :=
 ⟨h.k2,h.k1,fun j q=>by
  cases e:o1 j with
  | none=>rfl
  | some t=>exact absurd (h.ap j (by rw [e];simp)) q,h.f2,h.f1⟩
theorem Pr.d1 {w wr w':World} {o1 o2:Nat→Option Tag} {c1 c2:Nat} {s1 s2:St} (h:Pr w wr o1 o2 c1 c2 s1 s2) {r:St×Ans×List Cmd} {sv:Value} (d:DoW wr o1 c1 r sv w') :
  ∃ o1' G,Pr w w' o1' o2 c1 c2 r.1 s2∧Only wr w' (fun j=>o1 j≠none)∧Its cmdC 4 41 w' sv G r.2.2.length (outT r.2.2)∧∀ g,G=some g→o1' g=none∧o2 g=none:=by
 obtain ⟨o1',G,k,n,i,hg⟩:=d
 refine ⟨o1',G,⟨k,h.k2.side n.only (fun j q=>h.ap j q),fun j q=>?_,h.f1.nx n,h.f2.side n.only (fun j q=>h.f1.2 j q)⟩,n.only,i,fun g e=>⟨(hg g e).1,?_⟩⟩
 ·rcases n.new j q with e | e
  ·exact h.ap j e
  ·exact h.k2.fresh e
 ·rcases (hg g e).2 with e | e
  ·exact h.ap g e
  ·exact h.k2.fresh e
theorem Pr.new {w w1 w2 w3:World} {o1 o2:Nat→Option Tag} {c1 c2:Nat} (b1:Below w.heap.size w w1) (k1:Wk w2 o1 c1 St.zero) (g1:∀ j,o1 j≠none→w1.heap.size≤j) (b2:Below w1.heap.size w1 w2)
  (k2:Wk w3 o2 c2 St.zero) (g2:∀ j,o2 j≠none→w2.heap.size≤j) (b3:Below w2.heap.size w2 w3):Pr w w3 o1 o2 c1 c2 St.zero St.zero:=by
 have e1:=b1.size
 have e2:=b2.size
 have b02:Below w.heap.size w w2:=b1.trans (b2.mono e1)
 have b03:Below w.heap.size w w3:=b02.trans (b3.mono (by omega))
 refine ⟨k1.below b3,k2,fun j q=>?_,⟨b03,fun j q=>by have:=g1 j q;omega⟩,⟨b03,fun j q=>by have:=g2 j q;omega⟩⟩
 cases e:o2 j with
 | none=>rfl
 | some t =>
  have h1:=g2 j (by rw [e];simp)
  have h2:=k1.lt q
  omega
theorem twice_walk (a0:Option Addr) (k cap:Nat) (Z:Nat→Int) (w:World) (L:Lies w w.heap.size a0 (zs Z (k*10))) (hm:k≤9223372036854775807) :
  Calls Tryz.prog 5 #[.slice a0 k cap] w fun e w'=>e=.returned (.bool true)∧Below w.heap.size w w':=by
 by_cases h150:150<k
 ·go_enter Tryz.func5,Tryz.ntmps5
  go_wp2_with fail
  with_reducible refine (l_head _).mono ?_
  rintro e w1 ⟨rfl,hb1⟩
  go_wp2_with fail
  go_ret
  exact ⟨rfl,hb1⟩
 ·clear hm
  go_enter Tryz.func5,Tryz.ntmps5
  go_wp2_with fail
  with_reducible refine (l_head _).mono ?_
  rintro e w1 ⟨rfl,b1⟩
  go_wp2_with fail
  with_reducible refine (c_NewW w1).mono ?_
  rintro e w2 ⟨c1,p1,rfl,k1,_,g1,b2⟩
  go_wp2_with fail
  with_reducible refine (c_NewW w2).mono ?_
  rintro e w3 ⟨c2,p2,rfl,k2,_,g2,b3⟩
  have P3:=Lib.hid (Pr.new b1 k1 g1 b2 k2 g2 b3)
  have I3:Hid (Inv ((150-0)*64064+64064) 0 St.zero):=Lib.hid (Inv.zero (by decide))
  clear b1 k1 g1 b2 k2 g2 b3
  go_wp2_with fail
  go_loopg [20] k (fun gk v20 wr=>∃ (i:Nat) (o1 o2:Nat→Option Tag) (s:St),v20=.int .i64 (i:Int)∧Hid (i+gk=k)∧Hid (Inv ((150-i)*64064+64064) 0 s)∧Hid (Pr w wr o1 o2 c1 c2 s s))
  case atStart=>exact ⟨0,p1,p2,St.zero,rfl,Lib.hid (by omega),I3,P3⟩
  case round =>
   clear P3 I3
   obtain ⟨i,o1,o2,s,rfl,HK,HI,HP⟩:=hrel
   by_cases hi:i<k
   ·obtain ⟨ad,rfl,hab,hcell⟩:=(L.below HP.out.f1.1 (Nat.le_refl _)).num (j:=i*10) (by omega)
    have hli:(i:Int)<(k:Int):=by omega
    obtain ⟨W0,hW0⟩:∃ W0,W0=wr:=⟨_,rfl⟩
    subst hW0
    have x0:W0.cell? (ad.add (i*10))=some (.int .i64 (Z (i*10))):=hcell (i*10) (by omega)
    have x1:=cell_in (c:=0) (hcell (i*10+1) (by omega))
    have x2:=cell_in (c:=1) (hcell (i*10+2) (by omega))
    have x3:=cell_in (c:=2) (hcell (i*10+3) (by omega))
    have x4:=cell_in (c:=3) (hcell (i*10+4) (by omega))
    have x5:=cell_in (c:=4) (hcell (i*10+5) (by omega))
    have x6:=cell_in (c:=5) (hcell (i*10+6) (by omega))
    have x7:=cell_in (c:=6) (hcell (i*10+7) (by omega))
    have x8:=cell_in (c:=7) (hcell (i*10+8) (by omega))
    have x9:=cell_in (c:=8) (hcell (i*10+9) (by omega))
    obtain ⟨q0,hq0⟩:∃ q,Z (i*10)=q:=⟨_,rfl⟩
    obtain ⟨q1,hq1⟩:∃ q,Z (i*10+1)=q:=⟨_,rfl⟩
    obtain ⟨q2,hq2⟩:∃ q,Z (i*10+2)=q:=⟨_,rfl⟩
    obtain ⟨q3,hq3⟩:∃ q,Z (i*10+3)=q:=⟨_,rfl⟩
    obtain ⟨q4,hq4⟩:∃ q,Z (i*10+4)=q:=⟨_,rfl⟩
    obtain ⟨q5,hq5⟩:∃ q,Z (i*10+5)=q:=⟨_,rfl⟩
    obtain ⟨q6,hq6⟩:∃ q,Z (i*10+6)=q:=⟨_,rfl⟩
    obtain ⟨q7,hq7⟩:∃ q,Z (i*10+7)=q:=⟨_,rfl⟩
    obtain ⟨q8,hq8⟩:∃ q,Z (i*10+8)=q:=⟨_,rfl⟩
    obtain ⟨q9,hq9⟩:∃ q,Z (i*10+9)=q:=⟨_,rfl⟩
    rw [hq0] at x0
    rw [hq1] at x1
    rw [hq2] at x2
    rw [hq3] at x3
    rw [hq4] at x4
    rw [hq5] at x5
    rw [hq6] at x6
    rw [hq7] at x7
    rw [hq8] at x8
    rw [hq9] at x9
    clear hq0 hq1 hq2 hq3 hq4 hq5 hq6 hq7 hq8 hq9 hcell
    go_upto_region 10 with (fail)
    have hbox:=heap_alloc_new W0 (.cells #[.int .i64 q0,.int .i64 q1,.int .i64 q2,.int .i64 q3,.int .i64 q4,.int .i64 q5,.int .i64 q6,.int .i64 q7,.int .i64 q8,.int .i64 q9] 35)
    have o5:Only W0 (W0.alloc (.cells #[.int .i64 q0,.int .i64 q1,.int .i64 q2,.int .i64 q3,.int .i64 q4,.int .i64 q5,.int .i64 q6,.int .i64 q7,.int .i64 q8,.int .i64 q9] 35)) (fun _=>False):=(Only.refl W0 _).alloc _
    have P5:=HP.out.grow o5
    have HX:=Lib.hid (HP.out.fresh (Nat.le_refl W0.heap.size))
    obtain ⟨x,hx⟩:∃ x,W0.heap.size=x:=⟨_,rfl⟩
    rw [hx] at hbox HX
    try rw [hx]
    clear x0 x1 x2 x3 x4 x5 x6 x7 x8 x9 HP o5 hx hab
    generalize W0.alloc (.cells #[.int .i64 q0,.int .i64 q1,.int .i64 q2,.int .i64 q3,.int .i64 q4,.int .i64 q5,.int .i64 q6,.int .i64 q7,.int .i64 q8,.int .i64 q9] 35)=w5 at hbox P5 ⊢
    have ⟨y0,y1,y2,y3,y4,y5,y6,y7,y8,y9⟩:=ev_cells hbox
    by_cases h40:q9≤40
    ·have dm:=l_mild w5 q0 q1 q2 q3 q4 q5 q6 q7 q8 q9
     rw [decide_eq_true h40] at dm
     clear h40
     go_wp2_with fail
     with_reducible refine dm.mono ?_
     rintro e w6 ⟨rfl,b56⟩
     have o6:=Only.of_below (S:=fun _=>False) b56
     have HE6:=Lib.hid (o6.blk (fun q=>q) hbox)
     have P6:=P5.grow o6
     clear y0 y1 y2 y3 y4 y5 y6 y7 y8 y9 dm P5 o6 b56 hbox
     have ⟨y0,y1,y2,y3,y4,y5,y6,y7,y8,y9⟩:=ev_cells HE6.out
     have HI6:Hid (Inv ((150-(i+1))*64064+64064+64064) 0 s):=Lib.hid (HI.out.mono (by omega) (Nat.le_refl _))
     have hI7:=Inv.doE HI6.out ⟨q0,q1,q2,q3,q4,q5,q6,q7,q8,q9⟩
     have hLN:=Inv.doL HI6.out ⟨q0,q1,q2,q3,q4,q5,q6,q7,q8,q9⟩
     have d1:=c_Do P6.k1 HI6.out q0 q1 q2 q3 q4 q5 q6 q7 q8 q9
     have hd2:=fun W (k2:Wk W o2 c2 s)=>c_Do k2 HI6.out q0 q1 q2 q3 q4 q5 q6 q7 q8 q9
     obtain ⟨r,hr⟩:∃ r,s.doE ⟨q0,q1,q2,q3,q4,q5,q6,q7,q8,q9⟩=r:=⟨_,rfl⟩
     rw [hr] at d1 hI7 hLN
     simp only [hr] at hd2
     obtain ⟨s',⟨b1,b2,b3,b4⟩,l⟩:=r
     have HI7:=Lib.hid hI7
     have HLN:=Lib.hid (show l.length≤1152921504606846976 by have:l.length<1073741824:=hLN;omega)
     clear hr HI HI6 hI7 hLN
     go_upto_region 12 with (first
      | (go_at_call 8;go_loud (with_reducible refine d1.mono ?_;rintro e w7 ⟨sv1,rfl,hd1⟩;have HX7:=new_ans w7))
      | (with_reducible refine wpList_store_ans rfl (.tmp 7) (.tmp 31) rfl w7.heap.size b1 b2 b3 b4 rfl rfl 0 0 0 0 HX7 ?_;intro w8 HG8 hg8))
     obtain ⟨p1',G1,P7,n7,i7,g7⟩:=P6.d1 hd1
     have o8:=ans_only hg8
     have P8:=P7.side o8 (fun j q=>P7.fresh (by omega))
     have HE8:=Lib.hid (o8.blk (fun q=>by have:=lt_of_row (n7.blk (fun q=>q HX.out.1) HE6.out);omega) (n7.blk (fun q=>q HX.out.1) HE6.out))
     have HL8:=Lib.hid (i7.kept o8 (fun g e q=>by have:=i7.lt g e;omega))
     have HN8:=Lib.hid (And.intro (fun g e=>(g7 g e).2) (P7.fresh (Nat.le_refl w7.heap.size)).2.1)
     obtain ⟨X,hX⟩:∃ X,w7.heap.size=X:=⟨_,rfl⟩
     rw [hX] at HG8 HN8
     try rw [hX]
     clear y0 y1 y2 y3 y4 y5 y6 y7 y8 y9 HX7 hd1 d1 P6 P7 n7 i7 g7 o8 hg8 HE6 hX
     have ⟨y0,y1,y2,y3,y4,y5,y6,y7,y8,y9⟩:=ev_cells HE8.out
     have d2:=hd2 w8 P8.k2
     clear hd2
     go_upto_region 13 with (first
      | (go_at_call 8;go_loud (with_reducible refine d2.mono ?_;rintro e w9 ⟨sv2,rfl,hd2⟩;have HX9:=new_ans w9))
      | (with_reducible refine wpList_store_ans rfl (.tmp 9) (.tmp 37) rfl w9.heap.size b1 b2 b3 b4 rfl rfl 0 0 0 0 HX9 ?_;intro w10 HG10 hg10))
     obtain ⟨p2',G2,P9,n9,i9,g9⟩:=P8.swap.d1 hd2
     have o10:=ans_only hg10
     have P10:=Lib.hid (P9.side o10 (fun j q=>P9.fresh (by omega))).swap
     have hx9:=n9.blk (fun q=>q HN8.out.2) HG8.out
     have HX10:=Lib.hid (o10.blk (fun q=>by have:=lt_of_row hx9;omega) hx9)
     have L9:=HL8.out.kept n9 (fun g e q=>q (HN8.out.1 g e))
     have L10:=Lib.hid (L9.kept o10 (fun g e q=>by have:=L9.lt g e;omega))
     have M10:=Lib.hid (i9.kept o10 (fun g e q=>by have:=i9.lt g e;omega))
     obtain ⟨Y,hY⟩:∃ Y,w9.heap.size=Y:=⟨_,rfl⟩
     rw [hY] at HG10
     try rw [hY]
     have ⟨z0,z1,z2,z3⟩:=an_cells HX10.out
     have ⟨u0,u1,u2,u3⟩:=an_cells HG10.out
     clear y0 y1 y2 y3 y4 y5 y6 y7 y8 y9 HX9 hd2 d2 P8 P9 n9 i9 g9 o10 hg10 HE8 hY hx9 L9 HL8 HN8 HG8 HX
     have ds:=l_same L10.out M10.out HLN.out
     clear L10 M10
     go_wp2_with (first | (go_at_call 14;go_loud (with_reducible refine ds.mono ?_;rintro e w11 ⟨rfl,j,rfl⟩)))
     go_roundg (k-(i+1))
     case measure=>have:=HK.out;omega
     case rel=>exact ⟨i+1,p1',p2',s',rfl,Lib.hid (by omega),HI7,Lib.hid (P10.out.grow ((Only.refl _ _).drewN _))⟩
    ·have dm:=l_mild w5 q0 q1 q2 q3 q4 q5 q6 q7 q8 q9
     rw [decide_eq_false h40] at dm
     clear h40
     go_wp2_with fail
     with_reducible refine dm.mono ?_
     rintro e w6 ⟨rfl,b56⟩
     have P6:=Lib.hid (P5.grow (Only.of_below b56))
     clear y0 y1 y2 y3 y4 y5 y6 y7 y8 y9 dm P5 b56 hbox
     go_wp2_with fail
     go_roundg (k-(i+1))
     case measure=>have:=HK.out;omega
     case rel=>exact ⟨i+1,o1,o2,s,rfl,Lib.hid (by omega),Lib.hid (HI.out.mono (by omega) (Nat.le_refl _)),P6⟩
   ·have hik:i=k:=by have:=HK.out;omega
    subst hik
    have n1:=c_Now HP.out.k1
    have n2:=c_Now HP.out.k2
    go_wp2_with fail
    with_reducible refine n1.mono ?_
    rintro e wx ⟨rfl,rfl⟩
    go_wp2_with fail
    with_reducible refine n2.mono ?_
    rintro e wx ⟨rfl,rfl⟩
    go_wp2_with fail
    with_reducible refine (c_Boxes HP.out.k1 HI.out).mono ?_
    rintro e w7 ⟨g7,cap7,rfl,_,_,b7⟩
    have P7:=Lib.hid (HP.out.grow (Only.of_below b7))
    clear b7
    go_wp2_with fail
    with_reducible refine (c_Boxes P7.out.k2 HI.out).mono ?_
    rintro e w8 ⟨g8,cap8,rfl,_,_,b8⟩
    have P8:=Lib.hid (P7.out.grow (Only.of_below b8))
    clear b8
    go_wp2_with fail
    go_ret
    exact ⟨rfl,P8.out.f1.1⟩
end Go.Proofs.YtgdpepoopicabaaGreat.W.C
