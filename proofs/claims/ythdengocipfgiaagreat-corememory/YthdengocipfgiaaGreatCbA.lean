import Derived.Test.YthdengocipfgiaaGreatCaN
import Derived.Test.YthdengocipfgiaaGreatCaB
import Derived.Test.YthdengocipfgiaaGreatCaG
import Derived.Test.YthdengocipfgiaaGreatCaE
import Derived.Test.YthdengocipfgiaaGreatCaA
import Derived.Test.YthdengocipfgiaaGreatCaH
import Derived.Test.YthdengocipfgiaaGreatCaK
import Derived.Test.YthdengocipfgiaaGreatCaM
import Derived.Test.YthdengocipfgiaaGreatCaC
import Derived.Test.YthdengocipfgiaaGreatCaJ
import Derived.Test.YthdengocipfgiaaGreatCaO
import Derived.Maps.OwnSet
import Derived.Maps.OwnOps
import Derived.Maps.RangeWalk
/- A part of what core's laws stand on. -/
set_option linter.unusedVariables false
set_option linter.unusedSimpArgs false
namespace Go.Proofs.YthdengocipfgiaaGreat.W.C
open Go.RowKit Go.Proofs.YthdengocipfgiaaGreat.W
structure Tb (α:Type) where
 a:Int→Option α
 n:Nat
def Tb.nil {α:Type}:Tb α:=⟨fun _=>none,0⟩
def Tb.set {α:Type} (m:Tb α) (i:Int) (v:α):Tb α:=⟨updZ m.a i (some v),if (m.a i).isSome then m.n else m.n+1⟩
def Tb.del {α:Type} (m:Tb α) (i:Int):Tb α:=⟨updZ m.a i none,if (m.a i).isSome then m.n-1 else m.n⟩
theorem Tb.set_at {α:Type} (m:Tb α) (i:Int) (v:α):(m.set i v).a i=some v:=updZ_same _ _ _
theorem Tb.set_ne {α:Type} (m:Tb α) {i j:Int} (v:α) (h:j≠i):(m.set i v).a j=m.a j:=updZ_ne _ _ h
theorem Tb.del_at {α:Type} (m:Tb α) (i:Int):(m.del i).a i=none:=updZ_same _ _ _
theorem Tb.del_ne {α:Type} (m:Tb α) {i j:Int} (h:j≠i):(m.del i).a j=m.a j:=updZ_ne _ _ h
structure Fu where
 acc:Int
 mem:Int
 cost:Int
 keep:Int
 often:Int
 ended:Int
 unt:Int
 F:Nat→Nat
 o:Nat
 ys:List Int
 pi:Tb Unit
 lo:Tb Unit
structure Pl where
 cl:Nat
 cn:Nat
 ca:Int→Option HR.V
 sp:Int
 bo:Tb Unit
abbrev Cmd:=Bool×Int×Int×Int
structure St where
 now:Int
 last:Int
 A:Int→Option Nat
 F:Int→Option Fn
 tk:Tb (Nat×Nat×Nat)
 fu:Tb Fu
 H:Int→Option Ht
 pl:Tb Pl
 bx:Int→Option Bo
 mx:Tb Unit
 ah:Tb Int
 tn:Nat
 T:HT.K→Option Int
 out:List Cmd
def St.zero:St:=⟨0,0,fun _=>none,fun _=>none,.nil,.nil,fun _=>none,.nil,fun _=>none,.nil,.nil,0,fun _=>none,[]⟩
def Fu.new (acc mem:Int):Fu:=⟨acc,mem,0,0,0,-1,0,fun _=>0,0,[],.nil,.nil⟩
def Pl.new:Pl:=⟨0,0,fun _=>none,0,.nil⟩
def noBo:Bo:=⟨0,0,0,0,.dead,false,0⟩
def St.B (s:St) (i:Int):Bo:=(s.bx i).getD noBo
def St.G (s:St) (f:Int):Fu:=(s.fu.a f).getD (Fu.new 0 0)
def St.P (s:St) (h:Int):Pl:=(s.pl.a h).getD Pl.new
theorem St.B_of {s:St} {i:Int} {b:Bo} (h:s.bx i=some b):s.B i=b:=by unfold St.B;rw [h];rfl
theorem St.G_of {s:St} {i:Int} {b:Fu} (h:s.fu.a i=some b):s.G i=b:=by unfold St.G;rw [h];rfl
theorem St.P_of {s:St} {i:Int} {b:Pl} (h:s.pl.a i=some b):s.P i=b:=by unfold St.P;rw [h];rfl
def St.setB (s:St) (b:Bo):St:={ s with bx:=updZ s.bx b.id (some b) }
def St.setG (s:St) (f:Int) (g:Fu):St:={ s with fu:=s.fu.set f g }
def St.setP (s:St) (h:Int) (p:Pl):St:={ s with pl:=s.pl.set h p }
def St.setT (s:St) (k:HT.K) (t:Int):St:={ s with T:=HT.updZ s.T k (some t),tn:=if (s.T k).isSome then s.tn else s.tn+1 }
def St.delT (s:St) (k:HT.K):St:={ s with T:=HT.updZ s.T k none,tn:=if (s.T k).isSome then s.tn-1 else s.tn }
def winN (F:Nat→Nat) (o:Nat) (ys:List Int):Int×Int×Int :=
 if tot F+o<4 then (0,0,10) else if tot F+o<2*o then (2,preN (nextI ys),endN (nextI ys)) else if spreadB F=true then (1,preC (cutN F 5),endC (cutN F 99)) else (0,0,10)
theorem win_eq (F:Nat→Nat) (o:Nat) (ys:List Int):win F o ys=Win (winN F o ys).1 (winN F o ys).2.1 (winN F o ys).2.2:=by
 unfold win winN;split
 ·rfl
 ·split
  ·rfl
  ·split <;> rfl
def Fu.win (g:Fu):Int×Int×Int:=winN g.F g.o g.ys
def addF (F:Nat→Nat) (o:Nat) (x:Int):Nat→Nat:=if 0≤x∧tot F+o+1=4096 then (fun j=>aF F x j / 2) else aF F x
def addO (F:Nat→Nat) (o:Nat) (x:Int):Nat:=if 0≤x∧tot F+o+1=4096 then aO o x / 2 else aO o x
def calledG (g:Fu) (now:Int) (idle:Bool):Fu :=
 { (if idle=true∧g.ended≠-1 then { g with F:=addF g.F g.o (now-g.ended),o:=addO g.F g.o (now-g.ended),ys:=last8 (g.ys ++ [now-g.ended]) } else g) with often:=min (g.often+1) 1000 }
def dropP (p:Pl) (i me:Int):Pl:=match p.ca i with
 | some _=>{ p with ca:=updZ p.ca i none,cn:=p.cn-1,sp:=p.sp-me }
 | none=>p
def putP (p:Pl) (b:Bo) (g:Fu):Pl :=
 { p with ca:=updZ p.ca b.id (some (p.cl*b.me.toNat+g.often.toNat*g.cost.toNat,b.me.toNat,b.id)),cn:=if (p.ca b.id).isSome then p.cn else p.cn+1,sp:=p.sp+b.me }
def St.hold (s:St) (i:Int):St:=(s.setP (s.B i).ho (dropP (s.P (s.B i).ho) i (s.B i).me)).delT (0,i)
def St.endC (s:St) (f:Int):St:={ s with F:=endF s.F f }.setG f { s.G f with ended:=s.now }
def St.leave (s:St) (h:Int):St:=if (s.H h).isSome then s else { s with pl:=s.pl.del h }
def St.outOf (s:St) (i:Int):St :=
 let b:=s.B i
 { s with ah:=s.ah.del i,mx:=s.mx.del i,pl:=s.pl.set b.ho { s.P b.ho with bo:=(s.P b.ho).bo.del i },fu:=s.fu.set b.fn { s.G b.fn with pi:=(s.G b.fn).pi.del i,lo:=(s.G b.fn).lo.del i } }
def St.die (s:St) (i:Int):St:={ s.setB (nx 3 (s.B i) s.now).1 with H:=gvH s.H (s.B i).ho (s.B i).me }
def St.gone (s:St) (i:Int):St :=
 let s1:=s.hold i
 let s2:=if (s.B i).q.runs then s1.endC (s.B i).fn else s1
 ((s2.outOf i).die i).leave (s.B i).ho
def St.give (s:St) (bt:Bool) (b:Bo):St:={ s with out:=s.out ++ [(bt,b.id,b.fn,b.ho)] }
def St.kill (s:St) (i:Int):St:=(s.gone i).give false (s.B i)
def St.idle (s:St) (i t:Int):St :=
 if t≤s.now then s.kill i else (s.setP (s.B i).ho (putP (s.P (s.B i).ho) (s.B i) (s.G (s.B i).fn))).setT (0,i) t
def St.boot (s:St) (f h:Int):St :=
 let i:=s.last+1
 let b:Bo:=⟨i,f,h,(s.G f).mem,.boot,false,s.now⟩
 { s with H:=tkH s.H h (s.G f).mem,last:=i,bx:=updZ s.bx i (some b),mx:=s.mx.set i (),pl:=s.pl.set h { s.P h with bo:=(s.P h).bo.set i () },fu:=s.fu.set f { s.G f with lo:=(s.G f).lo.set i () },out:=s.out ++ [(true,i,f,h)] }
def St.pin (s:St) (i:Int):St :=
 let s1:=s.hold i
 (s1.setB { s.B i with p:=true }).setG (s.B i).fn { s.G (s.B i).fn with lo:=(s.G (s.B i).fn).lo.del i,pi:=(s.G (s.B i).fn).pi.set i () }
def St.unpin (s:St) (i:Int):St :=
 (s.setB { s.B i with p:=false }).setG (s.B i).fn { s.G (s.B i).fn with pi:=(s.G (s.B i).fn).pi.del i,lo:=(s.G (s.B i).fn).lo.set i () }
def Lst (p:Pl) (i:Int) (v:HR.V):Prop:=p.ca i=some v∧∀ k u,p.ca k=some u→HR.lt u v=false
open Classical in
noncomputable def least (p:Pl):Int×HR.V:=if h:∃ x:Int×HR.V,Lst p x.1 x.2 then h.choose else (0,(0,0,0))
def evictP (p:Pl) (i:Int) (v:HR.V) (me:Int):Pl:={ p with cl:=max p.cl (v.1 / v.2.1),cn:=p.cn-1,ca:=updZ p.ca i none,sp:=p.sp-me }
noncomputable def St.clear (s:St) (h mem:Int):Nat→St
 | 0=>s
 | n+1=>let x:=least (s.P h)
  let s1:=(s.setP h (evictP (s.P h) x.1 x.2 (s.B x.1).me)).kill x.1
  if mem≤fr s1.H h then s1 else s1.clear h mem n
def St.may (s:St) (h mem:Int):Bool:=upB s.H h && decide (mem≤fr s.H h+(s.P h).sp)
noncomputable def St.room (s:St) (mem:Int):St×Option Int :=
 if (fit s.H mem).2 then (s,some ((fit s.H mem).1:Int)) else
  match (List.range 32).find? (fun j:Nat=>s.may (j:Int) mem) with
  | some h=>(s.clear h mem (s.P h).cn,some (h:Int))
  | none=>(s,none)
def ups (m:Tb Unit) (n:Int):List Int:=((List.range n.toNat).map (fun j=>((j+1:Nat):Int))).filter (fun i=>(m.a i).isSome)
def St.fewer (s:St) (f t:Int):List Int→St
 | []=>s
 | i :: l=>let s1:=s.unpin i
  (if (s1.B i).q.idle then s1.idle i t else s1).fewer f t l
def rd:Ph→Int
 | .warm=>0
 | .boot=>1
 | .bound=>1
 | _=>2
def St.pinnable (s:St) (f:Int):List Int :=
 let l:=(ups (s.G f).lo s.last).filter (fun i=>upB s.H (s.B i).ho)
 l.filter (fun i=>rd (s.B i).q == 0) ++ l.filter (fun i=>rd (s.B i).q == 1) ++ l.filter (fun i=>rd (s.B i).q == 2)
def St.pinL (s:St) (f:Int):List Int→St×Bool
 | []=>(s,false)
 | i :: l=>if ((s.G f).pi.n:Int)=(s.G f).keep then (s,true) else (s.pin i).pinL f l
noncomputable def St.bootN (s:St) (f:Int):Nat→St
 | 0=>s
 | n+1=>if ((s.G f).pi.n:Int)<(s.G f).keep then
   match s.room (s.G f).mem with
   | (s1,some h)=>((s1.boot f h).pin (s1.last+1)).bootN f n
   | (s1,none)=>s1
  else s
noncomputable def St.more (s:St) (f:Int):St :=
 let r:=s.pinL f (s.pinnable f)
 if r.2 then r.1 else r.1.bootN f (r.1.G f).keep.toNat
noncomputable def St.keep (s:St) (f:Int):St :=
 if (s.G f).keep<((s.G f).pi.n:Int) then s.fewer f (s.now+(s.G f).win.2.2) ((ups (s.G f).pi s.last).drop (s.G f).keep.toNat).reverse
 else if ((s.G f).pi.n:Int)<(s.G f).keep then s.more f else s
noncomputable def St.keepAll (s:St):Nat→St
 | 0=>s
 | n+1=>let s1:=s.keepAll n
  if (s1.fu.a (n:Int)).isSome then s1.keep n else s1
def Due (s:St) (k:HT.K):Prop:=∃ t,HT.Fst s.T k t∧t≤s.now
open Classical in
noncomputable def St.next (s:St):Option HT.K:=if h:∃ k,Due s k then some h.choose else none
def St.ahead (s:St) (f:Int):St :=
 if 0<(s.G f).pi.n+(s.G f).lo.n then s else
  if (fit s.H (s.G f).mem).2 then
   let s1:=s.boot f ((fit s.H (s.G f).mem).1:Int)
   { s1 with ah:=s1.ah.set (s.last+1) (s.G f).unt }
  else s
noncomputable def St.dues (s:St):Nat→St
 | 0=>s
 | n+1=>match s.next with
  | none=>s
  | some k=>let s1:=s.delT k
   (if k.1=0 then s1.kill k.2 else if k.1=1 then s1.ahead k.2 else s1).dues n
def tickB (v:Nat×Nat×Nat):Nat×Nat×Nat:=(v.1,v.2.1,min (v.2.2+v.2.1) v.1)
noncomputable def St.tick (s:St):St :=
 if s.now=1099511627776 then s else
  let s1:={ s with now:=s.now+1,tk:=⟨fun a=>(s.tk.a a).map tickB,s.tk.n⟩ }
  (s1.dues s1.tn).keepAll 64
def Fresh (s:St) (f i:Int):Prop :=
 let ok:=fun j=>((s.G f).pi.a j).isSome=true∨((s.G f).lo.a j).isSome=true
 ok i∧(s.B i).q.idle=true∧∀ j,ok j→(s.B j).q.idle=true→(s.B j).t<(s.B i).t∨((s.B j).t=(s.B i).t∧i≤j)
open Classical in
noncomputable def St.fresh (s:St) (f:Int):Option Int:=if h:∃ i,Fresh s f i then some h.choose else none
abbrev Ans:=Int×Int×Int×Int
def refused (e:Int):Ans:=(1,0,0,e)
def throttled (y:Int):Ans:=(4,0,y,0)
def St.begin (s:St) (f i:Int):St :=
 let s1:=(s.setG f (calledG (s.G f) s.now (busy s.F f == 0))).delT (1,f)
 let s2:={ s1 with F:=begF s1.A s1.F f }
 let s3:=s2.hold i
 s3.setB (nx 0 (s3.B i) s.now).1
noncomputable def St.cold (s:St) (f:Int):St×Ans :=
 let a:=(s.G f).acc
 let v:=(s.tk.a a).getD (0,0,0)
 if v.2.2=0 then (s,throttled 3) else
  match s.room (s.G f).mem with
  | (s1,none)=>(s1,throttled 4)
  | (s1,some h) =>
   let s2:=({ s1 with tk:=s1.tk.set a (v.1,v.2.1,v.2.2-1) }).boot f h
   (s2.begin f s2.last,(3,s2.last,0,0))
noncomputable def St.call (s:St) (f:Int):St×Ans :=
 if (
   s.fu.a f).isSome then
  if (askC s.A s.F f).1=1 then (s,throttled 1) else if (askC s.A s.F f).1=2 then (s,throttled 2) else
   match s.fresh f with
   | some i=>(s.begin f i,(2,i,0,0))
   | none=>s.cold f
 else (s,refused 2)
def newTk (o:Option (Nat×Nat×Nat)) (z r:Int):Nat×Nat×Nat:=match o with
 | some v=>(bnd z,bnd r,min v.2.2 (bnd z))
 | none=>(bnd z,bnd r,bnd z)
def St.account (s:St) (e:Ev):St×Int :=
 if 1000<e.s∨1000<e.r then (s,1) else if accC s.F e.n e.l≠0 then (s,(accC s.F e.n e.l:Int)) else
  ({ s with A:=accA s.A s.F e.n e.l,tk:=s.tk.set e.n (newTk (s.tk.a e.n) e.s e.r) },0)
def isFn (e:Ev):Bool:=decide (e.n<64) && decide (e.a<16) && decide (e.v≤1000) && decide (e.p≤1000) && decide (1≤e.m) && decide (e.m≤4096) && decide (1≤e.c) && decide (e.c≤1000)
def funE (s:St) (e:Ev):Int :=
 if isFn e=false then 1 else if (s.tk.a e.a).isNone then 2 else if (s.fu.a e.n).isSome∧((s.G e.n).acc≠e.a∨(s.G e.n).mem≠e.m) then 3 else
  if 0<e.v∧e.v<e.p then 4 else (funC s.A s.F e.n e.a e.v:Int)
noncomputable def St.func (s:St) (e:Ev):St×Int :=
 if funE s e=0 then
  ((({ s with F:=funF s.A s.F e.n e.a e.v }:St).setG e.n { (s.fu.a e.n).getD (Fu.new e.a e.m) with cost:=e.c,keep:=e.p }).keep e.n,0)
 else (s,funE s e)
noncomputable def St.addHost (s:St) (h z:Int):St×Int :=
 if addC s.H h z=0 then ((({ s with H:=addH s.H h z }:St).setP h Pl.new).keepAll 64,0) else (s,addC s.H h z)
def St.drainL (s:St):List Int→St
 | []=>s
 | i :: l=>(if (s.B i).q.runs then s.unpin i else s.kill i).drainL l
def St.goneL (s:St):List Int→St
 | []=>s
 | i :: l=>(s.gone i).goneL l
noncomputable def St.drain (s:St) (h:Int):St×Int :=
 if drC s.H h=0 then
  let s1:St:={ s with H:=drH s.H h }
  (((s1.drainL (ups (s.P h).bo s.last)).leave h).keepAll 64,0)
 else (s,drC s.H h)
noncomputable def St.fail (s:St) (h:Int):St×Int :=
 if (s.H h).isSome then
  let s1:=s.goneL (ups (s.P h).bo s.last)
  ((({ s1 with H:=updZ s1.H h none }:St).leave h).keepAll 64,0)
 else (s,2)
def St.booted (s:St) (i:Int):St×Int :=
 if (nx 1 (s.B i) s.now).2 then
  let s1:=s.setB (nx 1 (s.B i) s.now).1
  let s2:={ s1 with ah:=s1.ah.del i }
  (if (s1.B i).q.idle=true∧(s1.B i).p=false then s2.idle i ((s.ah.a i).getD (s.now+(s.G (s.B i).fn).win.2.2)) else s2,0)
 else (s,3)
def St.rest (s:St) (i:Int):St :=
 let f:=(s.B i).fn
 if (s.G f).win.2.1≤0 then s.idle i (s.now+(s.G f).win.2.2) else
  ((s.setT (1,f) (s.now+(s.G f).win.2.1)).setG f { s.G f with unt:=s.now+(s.G f).win.2.2 }).kill i
def St.done (s:St) (i:Int):St×Int :=
 if (nx 2 (s.B i) s.now).2 then
  let s1:=(s.setB (nx 2 (s.B i) s.now).1).endC (s.B i).fn
  (if upB s.H (s.B i).ho=false then s1.kill i else if (s.B i).p then s1 else s1.rest i,0)
 else (s,3)
noncomputable def St.tend (s:St) (e:Ev):St×Int :=
 if (s.mx.a e.n).isSome then
  if e.k=7 then s.booted e.n else if e.k=9 then s.done e.n else ((s.gone e.n).keep (s.B e.n).fn,0)
 else (s,2)
noncomputable def St.turn (s:St) (e:Ev):St×Int :=
 if e.k=1 then s.account e else if e.k=2 then s.func e else if e.k=3 then s.addHost e.n e.s else if e.k=4 then s.drain e.n else if e.k=5 then s.fail e.n
 else if e.k=7∨e.k=8∨e.k=9 then s.tend e else (s.tick,0)
noncomputable def St.answer (s:St) (e:Ev):St×Ans :=
 if e.k=6 then s.call e.n else ((s.turn e).1,if (s.turn e).2=0 then (0,0,0,0) else refused (s.turn e).2)
noncomputable def St.act (s:St) (e:Ev):St×Ans×List Cmd:=({ (s.answer e).1 with out:=[] },(s.answer e).2,(s.answer e).1.out)
def anF (an:Int→Int) (k:Int):Int→Int:=fun j=>if j=k then sat (an j+1) else an j
inductive Tag where
 | core
 | led
 | hos
 | tim
 | mb
 | mf
 | mp
 | mx
 | ma
 | bk (a:Int)
 | fb (f:Int)
 | fh (f:Int)
 | fr (f:Int)
 | fp (f:Int)
 | fl (f:Int)
 | pb (h:Int)
 | pm (h:Int)
 | pc (h:Int)
 | bx (i:Int)
structure Lay where
 c:Nat
 l:Nat
 h:Nat
 t:Nat
 mb:Nat
 mf:Nat
 mp:Nat
 mx:Nat
 ma:Nat
 bk:Int→Nat
 fb:Int→Nat
 fh:Int→Nat
 fr:Int→Nat
 fp:Int→Nat
 fl:Int→Nat
 pb:Int→Nat
 pm:Int→Nat
 pc:Int→Nat
 bx:Int→Nat
 an:Int→Int
abbrev ptr (b:Nat):Value:=.pointer (some ⟨b,0,none⟩)
abbrev cmdC (c:Cmd):List Value:=[.bool c.1,.int .i64 c.2.1,.int .i64 c.2.2.1,.int .i64 c.2.2.2]
def noCmd:Cmd:=(false,0,0,0)
def outT (l:List Cmd):Nat→Cmd:=fun j=>l.getD j noCmd
def crow (y:Lay) (now last:Int) (v:Value):List Value :=
 [.int .i64 now,.int .i64 last,ptr y.l,.map (some y.mb),.map (some y.mf),ptr y.h,.map (some y.mp),.map (some y.mx),.map (some y.ma),ptr y.t,.int .i64 (y.an 0),.int .i64 (y.an 1),.int .i64 (y.an 2),.int .i64 (y.an 3),.int .i64 (y.an 4),v]
def frow (y:Lay) (f:Int) (g:Fu):List Value :=
 [.int .i64 f,.int .i64 g.acc,.int .i64 g.mem,.int .i64 g.cost,.int .i64 g.keep,.int .i64 g.often,.int .i64 g.ended,.int .i64 g.unt,ptr (y.fh f),ptr (y.fr f),.map (some (y.fp f)),.map (some (y.fl f))]
def prow (y:Lay) (h:Int) (p:Pl):List Value:=[.map (some (y.pm h)),ptr (y.pc h),.int .i64 p.sp]
def MpT {α:Type} (w:World) (b:Nat) (m:Tb α) (e:Int→α→Value):Prop:=Mp Tryz.prog 3 w b (fun i=>(m.a i).map (e i)) m.n
def Ob (w:World) (own:Nat→Option Tag) (y:Lay) (s:St):Tag→Prop
 | .core=>own y.c=some .core∧∃ v G,w.heap[y.c]?=some (.cells (crow y s.now s.last v).toArray 69 (0,0))∧Its cmdC 4 49 w v G s.out.length (outT s.out)∧∀ g,G=some g→own g=some .core∧g≠y.c
 | .led=>own y.l=some .led∧Lg w y.l s.A s.F
 | .hos=>own y.h=some .hos∧Ho w y.h s.H
 | .tim=>HT.Tx w y.t s.tn s.T (fun j=>own j=some .tim)
 | .mb=>own y.mb=some .mb∧MpT w y.mb s.tk (fun a _=>ptr (y.bk a))
 | .mf=>own y.mf=some .mf∧MpT w y.mf s.fu (fun f _=>ptr (y.fb f))
 | .mp=>own y.mp=some .mp∧MpT w y.mp s.pl (fun h _=>ptr (y.pb h))
 | .mx=>own y.mx=some .mx∧MpT w y.mx s.mx (fun i _=>ptr (y.bx i))
 | .ma=>own y.ma=some .ma∧MpT w y.ma s.ah (fun _ t=>.int .i64 t)
 | .bk a=>∀ v,s.tk.a a=some v→own (y.bk a)=some (.bk a)∧Bk w (y.bk a) v.1 v.2.1 v.2.2
 | .fb f=>∀ g,s.fu.a f=some g→own (y.fb f)=some (.fb f)∧w.heap[y.fb f]?=some (.cells (frow y f g).toArray 146 (0,0))
 | .fh f=>∀ g,s.fu.a f=some g→own (y.fh f)=some (.fh f)∧Hs w (y.fh f) g.F g.o
 | .fr f=>∀ g,s.fu.a f=some g→own (y.fr f)=some (.fr f)∧Rg w (y.fr f) g.ys
 | .fp f=>∀ g,s.fu.a f=some g→own (y.fp f)=some (.fp f)∧MpT w (y.fp f) g.pi (fun i _=>ptr (y.bx i))
 | .fl f=>∀ g,s.fu.a f=some g→own (y.fl f)=some (.fl f)∧MpT w (y.fl f) g.lo (fun i _=>ptr (y.bx i))
 | .pb h=>∀ p,s.pl.a h=some p→own (y.pb h)=some (.pb h)∧w.heap[y.pb h]?=some (.cells (prow y h p).toArray 167 (0,0))
 | .pm h=>∀ p,s.pl.a h=some p→own (y.pm h)=some (.pm h)∧MpT w (y.pm h) p.bo (fun i _=>ptr (y.bx i))
 | .pc h=>∀ p,s.pl.a h=some p→HR.Cq (fun j=>own j=some (.pc h)) w (y.pc h) p.cl p.cn p.ca
 | .bx i=>∀ b,s.bx i=some b→own (y.bx i)=some (.bx i)∧Bx w (y.bx i) b
structure Cor (w:World) (own:Nat→Option Tag) (y:Lay) (s:St):Prop where
 lt:∀ j t,own j=some t→j<w.heap.size
 ob:∀ t,Ob w own y s t
theorem MpT.kept {α:Type} {w w':World} {b:Nat} {m:Tb α} {e:Int→α→Value} {S:Nat→Prop} (h:MpT w b m e) (ho:Only w w' S) (hb:¬ S b):MpT w' b m e:=Mp.kept h ho hb
theorem MpT.lt {α:Type} {w:World} {b:Nat} {m:Tb α} {e:Int→α→Value} (h:MpT w b m e):b<w.heap.size:=Mp.lt h
theorem Lg.kept {w w':World} {l:Nat} {A:Int→Option Nat} {F:Int→Option Fn} {S:Nat→Prop} (h:Lg w l A F) (ho:Only w w' S) (hl:¬ S l):Lg w' l A F:=⟨h.ab,ho.blk hl h.row⟩
theorem Ho.kept {w w':World} {l:Nat} {H:Int→Option Ht} {S:Nat→Prop} (h:Ho w l H) (ho:Only w w' S) (hl:¬ S l):Ho w' l H:=⟨h.hb,ho.blk hl h.row⟩
theorem Bk.kept {w w':World} {b s r t:Nat} {S:Nat→Prop} (h:Bk w b s r t) (ho:Only w w' S) (hl:¬ S b):Bk w' b s r t:=⟨h.1,h.2.1,h.2.2.1,ho.blk hl h.2.2.2⟩
theorem Bx.kept {w w':World} {b:Nat} {c:Bo} {S:Nat→Prop} (h:Bx w b c) (ho:Only w w' S) (hl:¬ S b):Bx w' b c:=ho.blk hl h
theorem Hs.kept {w w':World} {r o:Nat} {F:Nat→Nat} {S:Nat→Prop} (h:Hs w r F o) (ho:Only w w' S) (hl:¬ S r):Hs w' r F o:=⟨h.1,ho.blk hl h.2⟩
theorem Rg.kept {w w':World} {r:Nat} {ys:List Int} {S:Nat→Prop} (h:Rg w r ys) (ho:Only w w' S) (hl:¬ S r):Rg w' r ys:=by
 obtain ⟨zs,h1,h2⟩:=h;exact ⟨zs,h1,ho.blk hl h2⟩
def grow (own:Nat→Option Tag) (w w':World) (t:Tag):Nat→Option Tag:=fun j=>if j<w.heap.size then own j else if j<w'.heap.size then some t else none
theorem grow_old {own:Nat→Option Tag} {w w':World} {t:Tag} {j:Nat} (h:j<w.heap.size):grow own w w' t j=own j:=if_pos h
theorem grow_new {own:Nat→Option Tag} {w w':World} {t:Tag} {j:Nat} (h:w.heap.size≤j) (h':j<w'.heap.size):grow own w w' t j=some t:=by unfold grow;rw [if_neg (by omega),if_pos h']
theorem grow_inv {own:Nat→Option Tag} {w w':World} {t u:Tag} {j:Nat} (h:grow own w w' t j=some u):(j<w.heap.size∧own j=some u)∨(w.heap.size≤j∧j<w'.heap.size∧u=t):=by
 unfold grow at h
 split at h
 ·exact Or.inl ⟨by assumption,h⟩
 ·split at h
  ·cases h;exact Or.inr ⟨by omega,by assumption,rfl⟩
  ·cases h
theorem Ob.kept {w w':World} {own own':Nat→Option Tag} {y:Lay} {s:St} {S:Nat→Prop} {t:Tag} (h:Ob w own y s t) (ho:Only w w' S) (hS:∀ j,own j=some t→¬ S j) (hw:∀ j,own j=some t→own' j=some t) (hb:∀ j,own' j=some t→j<w'.heap.size):Ob w' own' y s t:=by
 cases t with
 | core =>
  obtain ⟨h1,v,G,h2,h3,h4⟩:=h;exact ⟨hw _ h1,v,G,ho.blk (hS _ h1) h2,h3.kept ho (fun g hg=>hS _ (h4 g hg).1),fun g hg=>⟨hw _ (h4 g hg).1,(h4 g hg).2⟩⟩
 | led=>exact ⟨hw _ h.1,Lg.kept h.2 ho (hS _ h.1)⟩
 | hos=>exact ⟨hw _ h.1,Ho.kept h.2 ho (hS _ h.1)⟩
 | tim=>exact ⟨(h.1.kept ho hS).mono hw,hb⟩
 | mb=>exact ⟨hw _ h.1,h.2.kept ho (hS _ h.1)⟩
 | mf=>exact ⟨hw _ h.1,h.2.kept ho (hS _ h.1)⟩
 | mp=>exact ⟨hw _ h.1,h.2.kept ho (hS _ h.1)⟩
 | mx=>exact ⟨hw _ h.1,h.2.kept ho (hS _ h.1)⟩
 | ma=>exact ⟨hw _ h.1,h.2.kept ho (hS _ h.1)⟩
 | bk a=>exact fun v hv=>⟨hw _ (h v hv).1,Bk.kept (h v hv).2 ho (hS _ (h v hv).1)⟩
 | fb f=>exact fun v hv=>⟨hw _ (h v hv).1,ho.blk (hS _ (h v hv).1) (h v hv).2⟩
 | fh f=>exact fun v hv=>⟨hw _ (h v hv).1,Hs.kept (h v hv).2 ho (hS _ (h v hv).1)⟩
 | fr f=>exact fun v hv=>⟨hw _ (h v hv).1,Rg.kept (h v hv).2 ho (hS _ (h v hv).1)⟩
 | fp f=>exact fun v hv=>⟨hw _ (h v hv).1,(h v hv).2.kept ho (hS _ (h v hv).1)⟩
 | fl f=>exact fun v hv=>⟨hw _ (h v hv).1,(h v hv).2.kept ho (hS _ (h v hv).1)⟩
 | pb f=>exact fun v hv=>⟨hw _ (h v hv).1,ho.blk (hS _ (h v hv).1) (h v hv).2⟩
 | pm f=>exact fun v hv=>⟨hw _ (h v hv).1,(h v hv).2.kept ho (hS _ (h v hv).1)⟩
 | pc f=>exact fun v hv=>((h v hv).kept ho hS).mono hw
 | bx f=>exact fun v hv=>⟨hw _ (h v hv).1,Bx.kept (h v hv).2 ho (hS _ (h v hv).1)⟩
structure Nx (w:World) (own:Nat→Option Tag) (w':World) (own':Nat→Option Tag):Prop where
 only:Only w w' (fun j=>own j≠none)
 new:∀ j,own' j≠none→own j≠none∨w.heap.size≤j
theorem Nx.refl (w:World) (own:Nat→Option Tag):Nx w own w own:=⟨Only.refl _ _,fun _ h=>Or.inl h⟩
theorem Nx.trans {w w1 w2:World} {o o1 o2:Nat→Option Tag} (h:Nx w o w1 o1) (k:Nx w1 o1 w2 o2):Nx w o w2 o2 :=
 ⟨h.only.trans k.only (fun j q=>h.new j q),fun j q=>(k.new j q).elim (h.new j) (fun q=>Or.inr (by have:=h.only.size;omega))⟩
theorem Nx.blk {w w':World} {o o':Nat→Option Tag} (h:Nx w o w' o') {x:Nat} {b:Obj} (hx:o x=none) (hc:w.heap[x]?=some b):w'.heap[x]?=some b:=h.only.blk (fun q=>q hx) hc
theorem Nx.cell {w w':World} {o o':Nat→Option Tag} (h:Nx w o w' o') {x:Addr} {v:Value} (hx:o x.block=none) (hc:w.cell? x=some v):w'.cell? x=some v:=h.only.cell (fun q=>q hx) hc
theorem Nx.none {w w':World} {o o':Nat→Option Tag} (h:Nx w o w' o') {x:Nat} (hx:o x=none) (hl:x<w.heap.size):o' x=none:=by
 cases q:o' x with
 | none=>rfl
 | some t =>
       rcases h.new x (by rw [q];simp) with e | e
       ·exact absurd hx e
       ·omega
theorem Cor.turn {w w':World} {own:Nat→Option Tag} {y y':Lay} {s s':St} (h:Cor w own y s) (t0:Tag) (ho:Only w w' (fun j=>own j=some t0)) (hn:Ob w' (grow own w w' t0) y' s' t0) (hs:∀ t,t≠t0→Ob w own y s t→Ob w own y' s' t) :
  Cor w' (grow own w w' t0) y' s'∧Nx w own w' (grow own w w' t0):=by
 have hsz:=ho.size;refine ⟨⟨fun j t q=>?_,fun t=>?_⟩,ho.mono (fun j q=>by rw [q];simp),fun j q=>?_⟩
 ·rcases grow_inv q with q | q
  ·omega
  ·omega
 ·by_cases e:t=t0
  ·subst e;exact hn
  ·refine (hs t e (h.ob t)).kept ho (fun j q q'=>e ?_) (fun j q=>by rw [grow_old (h.lt _ _ q)];exact q) (fun j q=>?_)
   ·rw [q] at q';cases q';rfl
   ·rcases grow_inv q with q | q <;> omega
 ·cases hq:grow own w w' t0 j with
  | none=>exact absurd hq q
  | some u =>
   rcases grow_inv hq with q | q
   ·left;rw [q.2];simp
   ·right;exact q.1
theorem Cor.side {w w':World} {own:Nat→Option Tag} {y:Lay} {s:St} (h:Cor w own y s) {S:Nat→Prop} (ho:Only w w' S) (hS:∀ j,S j→own j=none):Cor w' own y s :=
 ⟨fun j t q=>Nat.lt_of_lt_of_le (h.lt j t q) ho.size,fun t=>(h.ob t).kept ho (fun j q q'=>by rw [hS j q'] at q;cases q) (fun _ q=>q) (fun j q=>Nat.lt_of_lt_of_le (h.lt j _ q) ho.size)⟩
theorem Cor.below {w w':World} {own:Nat→Option Tag} {y:Lay} {s:St} (h:Cor w own y s) (hb:Below w.heap.size w w'):Cor w' own y s:=h.side (Only.of_below (S:=fun _=>False) hb) (fun _ q=>q.elim)
theorem Nx.below {w w':World} (own:Nat→Option Tag) (hb:Below w.heap.size w w'):Nx w own w' own:=⟨Only.of_below hb,fun _ q=>Or.inl q⟩
theorem Cor.alloc {w:World} {own:Nat→Option Tag} {y:Lay} {s:St} (h:Cor w own y s) (o:Obj):Cor (w.alloc o) own y s:=h.below ((Below.refl _ _).alloc (Nat.le_refl _) _)
theorem Cor.drewN {w:World} {own:Nat→Option Tag} {y:Lay} {s:St} (h:Cor w own y s) (n:Nat):Cor (w.drewN n) own y s:=h.side (S:=fun _=>False) ((Only.refl w _).drewN n) (fun _ q=>q.elim)
theorem Cor.fresh {w:World} {own:Nat→Option Tag} {y:Lay} {s:St} (h:Cor w own y s) {j:Nat} (hj:w.heap.size≤j):own j=none:=by
 cases q:own j with
 | none=>rfl
 | some t=>have:=h.lt j t q;omega
theorem own_old {w w':World} {own:Nat→Option Tag} {y:Lay} {s:St} (h:Cor w own y s) {j:Nat} {t u:Tag} (hj:own j=some t):grow own w w' u j=some t:=by rw [grow_old (h.lt _ _ hj)];exact hj
theorem Only.own {w w':World} {own:Nat→Option Tag} {b:Nat} {t:Tag} (hb:own b=some t) (hg:w.grownBy w' (some b)):Only w w' (fun j=>own j=some t):=Only.grown hg (Or.inl hb)
theorem mapT {α:Type} (m:Tb α) (e:Int→α→Value) (i:Int) (v:α):(fun x=>((m.set i v).a x).map (e x))=updZ (fun x=>(m.a x).map (e x)) i (some (e i v)):=by
 funext x;unfold Tb.set updZ;dsimp only;split
 ·rename_i q;subst q;rfl
 ·rfl
theorem mapD {α:Type} (m:Tb α) (e:Int→α→Value) (i:Int):(fun x=>((m.del i).a x).map (e x))=updZ (fun x=>(m.a x).map (e x)) i none:=by
 funext x;unfold Tb.del updZ;dsimp only;split <;> rfl
theorem isSome_map {α β:Type} (o:Option α) (f:α→β):(o.map f).isSome=o.isSome:=by cases o <;> rfl
theorem MpT.mp {α:Type} {w:World} {b:Nat} {m:Tb α} {e:Int→α→Value} (h:MpT w b m e):Mp Tryz.prog 3 w b (fun x=>(m.a x).map (e x)) m.n:=h
theorem MpT.set {α:Type} {w':World} {b:Nat} {m:Tb α} {e:Int→α→Value} {i:Int} {v:α} (h:Mp Tryz.prog 3 w' b (updZ (fun x=>(m.a x).map (e x)) i (some (e i v))) (if ((fun x=>(m.a x).map (e x)) i).isSome then m.n else m.n+1)):MpT w' b (m.set i v) e:=by
 unfold MpT;rw [mapT];dsimp only at h;rw [isSome_map] at h;exact h
theorem MpT.del {α:Type} {w':World} {b:Nat} {m:Tb α} {e:Int→α→Value} {i:Int} (h:Mp Tryz.prog 3 w' b (updZ (fun x=>(m.a x).map (e x)) i none) (if ((fun x=>(m.a x).map (e x)) i).isSome then m.n-1 else m.n)):MpT w' b (m.del i) e:=by
 unfold MpT;rw [mapD];dsimp only at h;rw [isSome_map] at h;exact h
theorem MpT.same {α:Type} {w:World} {b:Nat} {m:Tb α} {e:Int→α→Value} {i:Int} {v v':α} (h:MpT w b m e) (hv:m.a i=some v) (he:e i v'=e i v):MpT w b (m.set i v') e:=by
 unfold MpT at h ⊢
 have h1:(fun x=>((m.set i v').a x).map (e x))=(fun x=>(m.a x).map (e x)):=by
  rw [mapT];funext x;unfold updZ;split
  ·rename_i q;subst q;rw [hv,he];rfl
  ·rfl
 have h2:(m.set i v').n=m.n:=by unfold Tb.set;rw [hv];rfl
 rw [h1,h2];exact h
theorem ob_setG {w:World} {own:Nat→Option Tag} {y:Lay} {s:St} {f:Int} {g:Fu} {t0:Tag} (hg:s.fu.a f=some g) (g':Fu) (e1:t0=.fb f∨frow y f g'=frow y f g) (e2:t0=.fh f∨(g'.F=g.F∧g'.o=g.o)) (e3:t0=.fr f∨g'.ys=g.ys) (e4:t0=.fp f∨g'.pi=g.pi) (e5:t0=.fl f∨g'.lo=g.lo) :
  ∀ t,t≠t0→Ob w own y s t→Ob w own y (s.setG f g') t:=by
 have k:∀ {x:Int} {v:Fu},(s.setG f g').fu.a x=some v→(x=f∧v=g')∨(x≠f∧s.fu.a x=some v):=by
  intro x v h
  by_cases q:x=f
  ·subst q
   rw [show (s.setG x g').fu.a x=some g' from Tb.set_at _ _ _] at h
   cases h;exact Or.inl ⟨rfl,rfl⟩
  ·rw [show (s.setG f g').fu.a x=s.fu.a x from Tb.set_ne _ _ q] at h
   exact Or.inr ⟨q,h⟩
 intro t ne h
 cases t with
 | mf=>exact ⟨h.1,h.2.same hg rfl⟩
 | fb x =>
  intro v hv
  rcases k hv with ⟨rfl,rfl⟩ | ⟨q,hv'⟩
  ·rw [e1.resolve_left (fun q=>ne q.symm)];exact h _ hg
  ·exact h _ hv'
 | fh x =>
  intro v hv
  rcases k hv with ⟨rfl,rfl⟩ | ⟨q,hv'⟩
  ·obtain ⟨a,b⟩:=e2.resolve_left (fun q=>ne q.symm)
   rw [a,b];exact h _ hg
  ·exact h _ hv'
 | fr x =>
  intro v hv
  rcases k hv with ⟨rfl,rfl⟩ | ⟨q,hv'⟩
  ·rw [e3.resolve_left (fun q=>ne q.symm)];exact h _ hg
  ·exact h _ hv'
 | fp x =>
  intro v hv
  rcases k hv with ⟨rfl,rfl⟩ | ⟨q,hv'⟩
  ·rw [e4.resolve_left (fun q=>ne q.symm)];exact h _ hg
  ·exact h _ hv'
 | fl x =>
  intro v hv
  rcases k hv with ⟨rfl,rfl⟩ | ⟨q,hv'⟩
  ·rw [e5.resolve_left (fun q=>ne q.symm)];exact h _ hg
  ·exact h _ hv'
 | _=>exact h
theorem ob_setP {w:World} {own:Nat→Option Tag} {y:Lay} {s:St} {f:Int} {g:Pl} {t0:Tag} (hg:s.pl.a f=some g) (g':Pl) (e1:t0=.pb f∨g'.sp=g.sp) (e2:t0=.pm f∨g'.bo=g.bo) (e3:t0=.pc f∨(g'.cl=g.cl∧g'.cn=g.cn∧g'.ca=g.ca)) :
  ∀ t,t≠t0→Ob w own y s t→Ob w own y (s.setP f g') t:=by
 have k:∀ {x:Int} {v:Pl},(s.setP f g').pl.a x=some v→(x=f∧v=g')∨(x≠f∧s.pl.a x=some v):=by
  intro x v h
  by_cases q:x=f
  ·subst q
   rw [show (s.setP x g').pl.a x=some g' from Tb.set_at _ _ _] at h
   cases h;exact Or.inl ⟨rfl,rfl⟩
  ·rw [show (s.setP f g').pl.a x=s.pl.a x from Tb.set_ne _ _ q] at h
   exact Or.inr ⟨q,h⟩
 intro t ne h
 cases t with
 | mp=>exact ⟨h.1,h.2.same hg rfl⟩
 | pb x =>
  intro v hv
  rcases k hv with ⟨rfl,rfl⟩ | ⟨q,hv'⟩
  ·unfold prow;rw [e1.resolve_left (fun q=>ne q.symm)];exact h _ hg
  ·exact h _ hv'
 | pm x =>
  intro v hv
  rcases k hv with ⟨rfl,rfl⟩ | ⟨q,hv'⟩
  ·rw [e2.resolve_left (fun q=>ne q.symm)];exact h _ hg
  ·exact h _ hv'
 | pc x =>
  intro v hv
  rcases k hv with ⟨rfl,rfl⟩ | ⟨q,hv'⟩
  ·obtain ⟨a,b,c⟩:=e3.resolve_left (fun q=>ne q.symm)
   rw [a,b,c];exact h _ hg
  ·exact h _ hv'
 | _=>exact h
theorem ob_setB {w:World} {own:Nat→Option Tag} {y:Lay} {s:St} (b:Bo):∀ t,t≠.bx b.id→Ob w own y s t→Ob w own y (s.setB b) t:=by
 intro t ne h
 cases t with
 | bx x =>
  intro v hv;have q:x≠b.id:=fun q=>ne (by rw [q])
  rw [show (s.setB b).bx x=s.bx x from updZ_ne _ _ q] at hv
  exact h _ hv
 | _=>exact h
theorem Cor.led {w w':World} {own:Nat→Option Tag} {y:Lay} {s:St} (h:Cor w own y s) {A:Int→Option Nat} {F:Int→Option Fn} (hn:Lg w' y.l A F) (hg:w.grownBy w' (some y.l)):Cor w' (grow own w w' .led) y { s with A:=A,F:=F }∧Nx w own w' (grow own w w' .led) :=
 h.turn .led (Only.own (h.ob .led).1 hg) ⟨own_old h (h.ob .led).1,hn⟩ (fun t ne ht=>by cases t <;> first | exact ht | exact absurd rfl ne)
theorem Cor.hos {w w':World} {own:Nat→Option Tag} {y:Lay} {s:St} (h:Cor w own y s) {H:Int→Option Ht} (hn:Ho w' y.h H) (hg:w.grownBy w' (some y.h)):Cor w' (grow own w w' .hos) y { s with H:=H }∧Nx w own w' (grow own w w' .hos) :=
 h.turn .hos (Only.own (h.ob .hos).1 hg) ⟨own_old h (h.ob .hos).1,hn⟩ (fun t ne ht=>by cases t <;> first | exact ht | exact absurd rfl ne)
theorem Cor.mx {w w':World} {own:Nat→Option Tag} {y:Lay} {s:St} (h:Cor w own y s) {m:Tb _} (hn:MpT w' y.mx m (fun i _=>ptr (y.bx i))) (hg:w.grownBy w' (some y.mx)):Cor w' (grow own w w' .mx) y { s with mx:=m }∧Nx w own w' (grow own w w' .mx) :=
 h.turn .mx (Only.own (h.ob .mx).1 hg) ⟨own_old h (h.ob .mx).1,hn⟩ (fun t ne ht=>by cases t <;> first | exact ht | exact absurd rfl ne)
theorem Cor.ma {w w':World} {own:Nat→Option Tag} {y:Lay} {s:St} (h:Cor w own y s) {m:Tb _} (hn:MpT w' y.ma m (fun _ t=>.int .i64 t)) (hg:w.grownBy w' (some y.ma)):Cor w' (grow own w w' .ma) y { s with ah:=m }∧Nx w own w' (grow own w w' .ma) :=
 h.turn .ma (Only.own (h.ob .ma).1 hg) ⟨own_old h (h.ob .ma).1,hn⟩ (fun t ne ht=>by cases t <;> first | exact ht | exact absurd rfl ne)
theorem Cor.mp_del {w w':World} {own:Nat→Option Tag} {y:Lay} {s:St} (h:Cor w own y s) {f:Int} (hn:MpT w' y.mp (s.pl.del f) (fun h _=>ptr (y.pb h))) (hg:w.grownBy w' (some y.mp)):Cor w' (grow own w w' .mp) y { s with pl:=s.pl.del f }∧Nx w own w' (grow own w w' .mp):=by
 have k:∀ {x:Int} {v:Pl},(s.pl.del f).a x=some v→s.pl.a x=some v:=by
  intro x v hv
  by_cases q:x=f
  ·subst q;rw [Tb.del_at] at hv;cases hv
  ·rwa [Tb.del_ne _ q] at hv
 refine h.turn .mp (Only.own (h.ob .mp).1 hg) ⟨own_old h (h.ob .mp).1,hn⟩ (fun t ne ht=>?_)
 cases t with
 | mp=>exact absurd rfl ne
 | pb x=>exact fun v hv=>ht v (k hv)
 | pm x=>exact fun v hv=>ht v (k hv)
 | pc x=>exact fun v hv=>ht v (k hv)
 | _=>exact ht
theorem Cor.tim {w w':World} {own:Nat→Option Tag} {y:Lay} {s:St} (h:Cor w own y s) {A:HT.K→Option Int} {n:Nat} {X:Nat→Prop} (hn:HT.Tx w' y.t n A X) (hX:∀ j,X j→own j=some .tim∨w.heap.size≤j) (ho:Only w w' (fun j=>own j=some .tim)):Cor w' (grow own w w' .tim) y { s with T:=A,tn:=n }∧Nx w own w' (grow own w w' .tim):=by
 refine h.turn .tim ho ⟨hn.1.mono (fun j q=>?_),fun j q=>?_⟩ (fun t ne ht=>by cases t <;> first | exact ht | exact absurd rfl ne)
 ·rcases hX j q with e | e
  ·exact own_old h e
  ·exact grow_new e (hn.2 j q)
 ·have:=ho.size
  rcases grow_inv q with q | q
  ·have:=h.lt j _ q.2;omega
  ·omega
theorem Cor.core {w w':World} {own:Nat→Option Tag} {y:Lay} {s:St} (h:Cor w own y s) {now last:Int} (an:Int→Int) {out:List Cmd} (v:Value) (G:Option Nat) (ho:Only w w' (fun j=>own j=some .core)) (h1:w'.heap[y.c]?=some (.cells (crow { y with an:=an } now last v).toArray 69 (0,0)))
  (h2:Its cmdC 4 49 w' v G out.length (outT out)) (h3:∀ g,G=some g→(own g=some .core∨w.heap.size≤g)∧g≠y.c):Cor w' (grow own w w' .core) { y with an:=an } { s with now:=now,last:=last,out:=out }∧Nx w own w' (grow own w w' .core):=by
 refine h.turn .core ho ⟨own_old h (h.ob .core).1,v,G,h1,h2,fun g hg=>⟨?_,(h3 g hg).2⟩⟩ (fun t ne ht=>by cases t <;> first | exact ht | exact absurd rfl ne)
 rcases (h3 g hg).1 with e | e
 ·exact own_old h e
 ·exact grow_new e (h2.lt g hg)
theorem Cor.fb {w w':World} {own:Nat→Option Tag} {y:Lay} {s:St} (h:Cor w own y s) {f:Int} {g:Fu} (e:s.fu.a f=some g) (g':Fu) (hF:g'.F=g.F) (h0:g'.o=g.o) (hy:g'.ys=g.ys) (hp:g'.pi=g.pi) (hl:g'.lo=g.lo) (hn:w'.heap[y.fb f]?=some (.cells (frow y f g').toArray 146 (0,0))) (hg:w.grownBy w' (some (y.fb f))):Cor w' (grow own w w' (.fb f)) y (s.setG f g')∧Nx w own w' (grow own w w' (.fb f)):=by
 have ho:=((h.ob (.fb f)) g e).1;refine h.turn (.fb f) (Only.own ho hg) (fun v hv=>?_) (ob_setG e _ (Or.inl rfl) (Or.inr ⟨hF,h0⟩) (Or.inr hy) (Or.inr hp) (Or.inr hl));rw [show (s.setG f g').fu.a f=some g' from Tb.set_at _ _ _] at hv
 cases hv
 exact ⟨own_old h ho,hn⟩
theorem Cor.fh {w w':World} {own:Nat→Option Tag} {y:Lay} {s:St} (h:Cor w own y s) {f:Int} {g:Fu} (e:s.fu.a f=some g) {F:Nat→Nat} {o:Nat} (hn:Hs w' (y.fh f) F o) (hg:w.grownBy w' (some (y.fh f))):Cor w' (grow own w w' (.fh f)) y (s.setG f { g with F:=F,o:=o })∧Nx w own w' (grow own w w' (.fh f)):=by
 have ho:=((h.ob (.fh f)) g e).1;refine h.turn (.fh f) (Only.own ho hg) (fun v hv=>?_) (ob_setG e _ (Or.inr rfl) (Or.inl rfl) (Or.inr rfl) (Or.inr rfl) (Or.inr rfl));rw [show (s.setG f { g with F:=F,o:=o }).fu.a f=some { g with F:=F,o:=o } from Tb.set_at _ _ _] at hv
 cases hv
 exact ⟨own_old h ho,hn⟩
theorem Cor.fr {w w':World} {own:Nat→Option Tag} {y:Lay} {s:St} (h:Cor w own y s) {f:Int} {g:Fu} (e:s.fu.a f=some g) {ys:List Int} (hn:Rg w' (y.fr f) ys) (hg:w.grownBy w' (some (y.fr f))):Cor w' (grow own w w' (.fr f)) y (s.setG f { g with ys:=ys })∧Nx w own w' (grow own w w' (.fr f)):=by
 have ho:=((h.ob (.fr f)) g e).1;refine h.turn (.fr f) (Only.own ho hg) (fun v hv=>?_) (ob_setG e _ (Or.inr rfl) (Or.inr ⟨rfl,rfl⟩) (Or.inl rfl) (Or.inr rfl) (Or.inr rfl));rw [show (s.setG f { g with ys:=ys }).fu.a f=some { g with ys:=ys } from Tb.set_at _ _ _] at hv
 cases hv
 exact ⟨own_old h ho,hn⟩
theorem Cor.fp {w w':World} {own:Nat→Option Tag} {y:Lay} {s:St} (h:Cor w own y s) {f:Int} {g:Fu} (e:s.fu.a f=some g) {m:Tb Unit} (hn:MpT w' (y.fp f) m (fun i _=>ptr (y.bx i))) (hg:w.grownBy w' (some (y.fp f))):Cor w' (grow own w w' (.fp f)) y (s.setG f { g with pi:=m })∧Nx w own w' (grow own w w' (.fp f)):=by
 have ho:=((h.ob (.fp f)) g e).1;refine h.turn (.fp f) (Only.own ho hg) (fun v hv=>?_) (ob_setG e _ (Or.inr rfl) (Or.inr ⟨rfl,rfl⟩) (Or.inr rfl) (Or.inl rfl) (Or.inr rfl));rw [show (s.setG f { g with pi:=m }).fu.a f=some { g with pi:=m } from Tb.set_at _ _ _] at hv
 cases hv
 exact ⟨own_old h ho,hn⟩
theorem Cor.fl {w w':World} {own:Nat→Option Tag} {y:Lay} {s:St} (h:Cor w own y s) {f:Int} {g:Fu} (e:s.fu.a f=some g) {m:Tb Unit} (hn:MpT w' (y.fl f) m (fun i _=>ptr (y.bx i))) (hg:w.grownBy w' (some (y.fl f))):Cor w' (grow own w w' (.fl f)) y (s.setG f { g with lo:=m })∧Nx w own w' (grow own w w' (.fl f)):=by
 have ho:=((h.ob (.fl f)) g e).1;refine h.turn (.fl f) (Only.own ho hg) (fun v hv=>?_) (ob_setG e _ (Or.inr rfl) (Or.inr ⟨rfl,rfl⟩) (Or.inr rfl) (Or.inr rfl) (Or.inl rfl));rw [show (s.setG f { g with lo:=m }).fu.a f=some { g with lo:=m } from Tb.set_at _ _ _] at hv
 cases hv
 exact ⟨own_old h ho,hn⟩
theorem Cor.pb {w w':World} {own:Nat→Option Tag} {y:Lay} {s:St} (h:Cor w own y s) {f:Int} {g:Pl} (e:s.pl.a f=some g) {x:Int} (hn:w'.heap[y.pb f]?=some (.cells (prow y f { g with sp:=x }).toArray 167 (0,0))) (hg:w.grownBy w' (some (y.pb f))):Cor w' (grow own w w' (.pb f)) y (s.setP f { g with sp:=x })∧Nx w own w' (grow own w w' (.pb f)):=by
 have ho:=((h.ob (.pb f)) g e).1;refine h.turn (.pb f) (Only.own ho hg) (fun v hv=>?_) (ob_setP e _ (Or.inl rfl) (Or.inr rfl) (Or.inr ⟨rfl,rfl,rfl⟩));rw [show (s.setP f { g with sp:=x }).pl.a f=some { g with sp:=x } from Tb.set_at _ _ _] at hv
 cases hv
 exact ⟨own_old h ho,hn⟩
theorem Cor.pm {w w':World} {own:Nat→Option Tag} {y:Lay} {s:St} (h:Cor w own y s) {f:Int} {g:Pl} (e:s.pl.a f=some g) {m:Tb Unit} (hn:MpT w' (y.pm f) m (fun i _=>ptr (y.bx i))) (hg:w.grownBy w' (some (y.pm f))):Cor w' (grow own w w' (.pm f)) y (s.setP f { g with bo:=m })∧Nx w own w' (grow own w w' (.pm f)):=by
 have ho:=((h.ob (.pm f)) g e).1;refine h.turn (.pm f) (Only.own ho hg) (fun v hv=>?_) (ob_setP e _ (Or.inr rfl) (Or.inl rfl) (Or.inr ⟨rfl,rfl,rfl⟩));rw [show (s.setP f { g with bo:=m }).pl.a f=some { g with bo:=m } from Tb.set_at _ _ _] at hv
 cases hv
 exact ⟨own_old h ho,hn⟩
theorem Cor.pc {w w':World} {own:Nat→Option Tag} {y:Lay} {s:St} (h:Cor w own y s) {f:Int} {g:Pl} (e:s.pl.a f=some g) {P:Nat→Prop} {cl cn:Nat} {ca:Int→Option HR.V} (hn:HR.Cq P w' (y.pc f) cl cn ca) (hP:∀ j,P j→own j=some (.pc f)∨w.heap.size≤j) (ho:Only w w' (fun j=>own j=some (.pc f))) :
  Cor w' (grow own w w' (.pc f)) y (s.setP f { g with cl:=cl,cn:=cn,ca:=ca })∧Nx w own w' (grow own w w' (.pc f)):=by
 refine h.turn (.pc f) ho (fun v hv=>?_) (ob_setP e _ (Or.inr rfl) (Or.inr rfl) (Or.inl rfl));rw [show (s.setP f { g with cl:=cl,cn:=cn,ca:=ca }).pl.a f=some { g with cl:=cl,cn:=cn,ca:=ca } from Tb.set_at _ _ _] at hv
 cases hv
 refine hn.tight.mono (fun j q=>?_)
 rcases hP j q.1 with e | e
 ·exact own_old h e
 ·exact grow_new e q.2
theorem Cor.bx {w w':World} {own:Nat→Option Tag} {y:Lay} {s:St} (h:Cor w own y s) {b0 b:Bo} (e:s.bx b.id=some b0) (hn:Bx w' (y.bx b.id) b) (hg:w.grownBy w' (some (y.bx b.id))):Cor w' (grow own w w' (.bx b.id)) y (s.setB b)∧Nx w own w' (grow own w w' (.bx b.id)):=by
 have ho:=((h.ob (.bx b.id)) b0 e).1;refine h.turn (.bx b.id) (Only.own ho hg) (fun v hv=>?_) (ob_setB b);rw [show (s.setB b).bx b.id=some b from updZ_same _ _ _] at hv
 cases hv
 exact ⟨own_old h ho,hn⟩
theorem Cor.bk {w w':World} {own:Nat→Option Tag} {y:Lay} {s:St} (h:Cor w own y s) {a:Int} {v0:Nat×Nat×Nat} (e:s.tk.a a=some v0) {z r t:Nat} (hn:Bk w' (y.bk a) z r t) (hg:w.grownBy w' (some (y.bk a))):Cor w' (grow own w w' (.bk a)) y { s with tk:=s.tk.set a (z,r,t) }∧Nx w own w' (grow own w w' (.bk a)):=by
 have ho:=((h.ob (.bk a)) v0 e).1;refine h.turn (.bk a) (Only.own ho hg) (fun v hv=>?_) (fun t ne ht=>?_)
 ·rw [show (s.tk.set a (z,r,t)).a a=some (z,r,t) from Tb.set_at _ _ _] at hv
  cases hv
  exact ⟨own_old h ho,hn⟩
 ·cases t with
  | mb=>exact ⟨ht.1,ht.2.same e rfl⟩
  | bk x =>
   intro v hv;have q:x≠a:=fun q=>ne (by rw [q])
   rw [show (s.tk.set a (z,r,_)).a x=s.tk.a x from Tb.set_ne _ _ q] at hv
   exact ht _ hv
  | _=>exact ht
end Go.Proofs.YthdengocipfgiaaGreat.W.C
namespace Go.Proofs.YthdengocipfgiaaGreat.W.C
open Go.RowKit Go.Maps Go.ChangeMaps Go.MapKept Go.Proofs.YthdengocipfgiaaGreat.W
theorem nx_id (k:Nat) (c:Bo) (now:Int):(nx k c now).1.id=c.id:=by unfold nx;split <;> rfl
abbrev To (w:World) (own:Nat→Option Tag) (y:Lay) (s':St) (w':World):Prop:=∃ own',Cor w' own' y s'∧Nx w own w' own'
theorem To.below {w w':World} {own:Nat→Option Tag} {y:Lay} {s:St} (h:Cor w own y s) (hb:Below w.heap.size w w'):To w own y s w':=⟨own,h.below hb,Nx.below own hb⟩
theorem To.drewN {w:World} {own:Nat→Option Tag} {y:Lay} {s:St} (h:Cor w own y s) (m:Nat):To w own y s (w.drewN m):=⟨own,h.drewN m,(Only.refl w _).drewN m,fun _ q=>Or.inl q⟩
theorem To.of {w w':World} {own o':Nat→Option Tag} {y:Lay} {s':St} (h:Cor w' o' y s'∧Nx w own w' o'):To w own y s' w':=⟨o',h⟩
theorem To.cast {w w':World} {own:Nat→Option Tag} {y:Lay} {s' s'':St} (h:To w own y s' w') (e:s'=s''):To w own y s'' w':=e ▸ h
theorem updT_id {α:Type} (H:HT.K→Option α) {x:HT.K} {v:Option α} (h:H x=v):HT.updZ H x v=H:=by
 funext y
 by_cases e:y=x
 ·subst e;rw [HT.updZ_same,h]
 ·rw [HT.updZ_ne _ _ e]
theorem k_busy {w:World} {own:Nat→Option Tag} {y:Lay} {s:St} (h:Cor w own y s) (f:Int):Calls Tryz.prog 21 #[ptr y.l,.int .i64 f] w fun e w'=>e=.returned (.int .i64 (busy s.F f:Int))∧w=w':=by
 refine l_busy _ _ _ _ _ (h.ob .led).2
theorem k_ask {w:World} {own:Nat→Option Tag} {y:Lay} {s:St} (h:Cor w own y s) (f:Int):Calls Tryz.prog 40 #[ptr y.l,.int .i64 f] w fun e w'=>e=.returned (.tuple #[.int .i64 ((askC s.A s.F f).1:Int),.bool (askC s.A s.F f).2])∧To w own y s w':=by
 refine (l_ask _ _ _ _ _ (h.ob .led).2).mono ?_;rintro e w' ⟨rfl,hb⟩;exact ⟨rfl,To.below h hb⟩
theorem k_lset {w:World} {own:Nat→Option Tag} {y:Lay} {s:St} (h:Cor w own y s) (x n:Int):Calls Tryz.prog 73 #[ptr y.l,.int .i64 x,.int .i64 n] w fun e w'=>e=.returned (.int .i64 (accC s.F x n:Int))∧To w own y { s with A:=accA s.A s.F x n,F:=s.F } w':=by
 refine (l_setA _ _ _ _ _ _ (h.ob .led).2).mono ?_;rintro e w' ⟨rfl,h1,h2⟩;exact ⟨rfl,To.of (h.led h1 h2)⟩
theorem k_lfun {w:World} {own:Nat→Option Tag} {y:Lay} {s:St} (h:Cor w own y s) (f x n:Int):Calls Tryz.prog 77 #[ptr y.l,.int .i64 f,.int .i64 x,.int .i64 n] w fun e w'=>e=.returned (.int .i64 (funC s.A s.F f x n:Int))∧To w own y { s with A:=s.A,F:=funF s.A s.F f x n } w':=by
 refine (l_setF _ _ _ _ _ _ _ (h.ob .led).2).mono ?_;rintro e w' ⟨rfl,h1,h2⟩;exact ⟨rfl,To.of (h.led h1 h2)⟩
theorem k_lbeg {w:World} {own:Nat→Option Tag} {y:Lay} {s:St} (h:Cor w own y s) (f:Int):Calls Tryz.prog 66 #[ptr y.l,.int .i64 f] w fun e w'=>e=.returned (.bool (mayB s.A s.F f))∧To w own y { s with A:=s.A,F:=begF s.A s.F f } w':=by
 refine (l_begin _ _ _ _ _ (h.ob .led).2).mono ?_;rintro e w' ⟨rfl,h1,h2⟩;exact ⟨rfl,To.of (h.led h1 h2)⟩
theorem k_lend {w:World} {own:Nat→Option Tag} {y:Lay} {s:St} (h:Cor w own y s) (f:Int):Calls Tryz.prog 150 #[ptr y.l,.int .i64 f] w fun e w'=>e=.returned (.bool (decide (0<busy s.F f)))∧To w own y { s with A:=s.A,F:=endF s.F f } w':=by
 refine (l_end _ _ _ _ _ (h.ob .led).2).mono ?_;rintro e w' ⟨rfl,h1,h2⟩;exact ⟨rfl,To.of (h.led h1 h2)⟩
theorem k_there {w:World} {own:Nat→Option Tag} {y:Lay} {s:St} (h:Cor w own y s) (x:Int):Calls Tryz.prog 36 #[ptr y.h,.int .i64 x] w fun e w'=>e=.returned (.bool (s.H x).isSome)∧w=w':=by
 refine h_there _ _ _ _ (h.ob .hos).2
theorem k_up {w:World} {own:Nat→Option Tag} {y:Lay} {s:St} (h:Cor w own y s) (x:Int):Calls Tryz.prog 113 #[ptr y.h,.int .i64 x] w fun e w'=>e=.returned (.bool (upB s.H x))∧w=w':=by
 refine h_up _ _ _ _ (h.ob .hos).2
theorem k_free {w:World} {own:Nat→Option Tag} {y:Lay} {s:St} (h:Cor w own y s) (x:Int):Calls Tryz.prog 20 #[ptr y.h,.int .i64 x] w fun e w'=>e=.returned (.int .i64 (fr s.H x))∧∃ m,w'=w.drewN m:=by
 refine h_free _ _ _ _ (h.ob .hos).2
theorem k_fit {w:World} {own:Nat→Option Tag} {y:Lay} {s:St} (h:Cor w own y s) (m:Int):Calls Tryz.prog 112 #[ptr y.h,.int .i64 m] w fun e w'=>e=.returned (.tuple #[.int .i64 ((fit s.H m).1:Int),.bool (fit s.H m).2])∧∃ q,w'=w.drewN q:=by
 refine h_fit _ _ _ _ (h.ob .hos).2
theorem k_hadd {w:World} {own:Nat→Option Tag} {y:Lay} {s:St} (h:Cor w own y s) (x n:Int):Calls Tryz.prog 80 #[ptr y.h,.int .i64 x,.int .i64 n] w fun e w'=>e=.returned (.int .i64 (addC s.H x n))∧To w own y { s with H:=addH s.H x n } w':=by
 refine (h_add _ _ _ _ _ (h.ob .hos).2).mono ?_;rintro e w' ⟨rfl,h1,h2⟩;exact ⟨rfl,To.of (h.hos h1 h2)⟩
theorem k_hfail {w:World} {own:Nat→Option Tag} {y:Lay} {s:St} (h:Cor w own y s) (x:Int):Calls Tryz.prog 89 #[ptr y.h,.int .i64 x] w fun e w'=>e=.returned (.int .i64 (faC s.H x))∧To w own y { s with H:=updZ s.H x none } w':=by
 refine (h_fail _ _ _ _ (h.ob .hos).2).mono ?_;rintro e w' ⟨rfl,h1,h2⟩;exact ⟨rfl,To.of (h.hos h1 h2)⟩
theorem k_hdrain {w:World} {own:Nat→Option Tag} {y:Lay} {s:St} (h:Cor w own y s) (x:Int):Calls Tryz.prog 83 #[ptr y.h,.int .i64 x] w fun e w'=>e=.returned (.int .i64 (drC s.H x))∧To w own y { s with H:=drH s.H x } w':=by
 refine (h_drain _ _ _ _ (h.ob .hos).2).mono ?_;rintro e w' ⟨rfl,h1,h2⟩;exact ⟨rfl,To.of (h.hos h1 h2)⟩
theorem k_htake {w:World} {own:Nat→Option Tag} {y:Lay} {s:St} (h:Cor w own y s) (x n:Int):Calls Tryz.prog 115 #[ptr y.h,.int .i64 x,.int .i64 n] w fun e w'=>e=.returned (.bool (tkB s.H x n))∧To w own y { s with H:=tkH s.H x n } w':=by
 refine (h_take _ _ _ _ _ (h.ob .hos).2).mono ?_;rintro e w' ⟨rfl,h1,h2⟩;exact ⟨rfl,To.of (h.hos h1 h2)⟩
theorem k_hgive {w:World} {own:Nat→Option Tag} {y:Lay} {s:St} (h:Cor w own y s) (x n:Int):Calls Tryz.prog 129 #[ptr y.h,.int .i64 x,.int .i64 n] w fun e w'=>e=.returned (.bool (gvB s.H x n))∧To w own y { s with H:=gvH s.H x n } w':=by
 refine (h_give _ _ _ _ _ (h.ob .hos).2).mono ?_;rintro e w' ⟨rfl,h1,h2⟩;exact ⟨rfl,To.of (h.hos h1 h2)⟩
theorem k_tset {w:World} {own:Nat→Option Tag} {y:Lay} {s:St} (h:Cor w own y s) (k:HT.K) (t:Int) (hk:HT.kw k) (ht:(Lit.int .i64 t).wf=true) (hn:s.tn<1073741823):Calls Tryz.prog 153 #[ptr y.t,HT.kv k,.int .i64 t] w fun e w'=>e=.returned (.tuple #[])∧To w own y (s.setT k t) w':=by
 refine (HT.x_set _ _ _ _ _ k t hk ht hn _ rfl (h.ob .tim)).mono ?_;rintro e w' ⟨rfl,X',h1,h2,h3⟩;exact ⟨rfl,To.of (h.tim h1 h2 h3)⟩
theorem k_tdrop {w:World} {own:Nat→Option Tag} {y:Lay} {s:St} (h:Cor w own y s) (k:HT.K) (hk:HT.kw k) (hn:s.tn<1073741824):Calls Tryz.prog 65 #[ptr y.t,HT.kv k] w fun e w'=>(∃ b,e=.returned (.bool b))∧To w own y (s.delT k) w':=by
 cases hA:s.T k with
 | none =>
  refine (HT.x_drop0 _ _ _ _ _ k hk hA (h.ob .tim)).mono ?_;rintro e w' ⟨rfl,X',h1,h2,h3⟩;refine ⟨⟨_,rfl⟩,(To.of (h.tim h1 h2 h3)).cast ?_⟩;unfold St.delT;rw [updT_id _ hA,hA];rfl
 | some t =>
  have h0:=((h.ob .tim).1.okA hA).2.2;refine (HT.x_drop _ _ _ _ _ k t hA hn (s.tn-1) (by omega) (h.ob .tim)).mono ?_
  rintro e w' ⟨rfl,X',h1,h2,h3⟩;refine ⟨⟨_,rfl⟩,(To.of (h.tim h1 h2 h3)).cast ?_⟩;unfold St.delT;rw [hA];rfl
theorem k_runs {w:World} {own:Nat→Option Tag} {y:Lay} {s:St} (h:Cor w own y s) {i:Int} {b:Bo} (e:s.bx i=some b):Calls Tryz.prog 84 #[ptr (y.bx i)] w fun e w'=>e=.returned (.bool b.q.runs)∧w=w':=by
 refine bx_runs _ _ _ (h.ob (.bx i) b e).2
theorem k_idle {w:World} {own:Nat→Option Tag} {y:Lay} {s:St} (h:Cor w own y s) {i:Int} {b:Bo} (e:s.bx i=some b):Calls Tryz.prog 62 #[ptr (y.bx i)] w fun e w'=>e=.returned (.bool b.q.idle)∧w=w':=by
 refine bx_idle _ _ _ (h.ob (.bx i) b e).2
theorem k_bcall {w:World} {own:Nat→Option Tag} {y:Lay} {s:St} (h:Cor w own y s) {i:Int} {b:Bo} (e:s.bx i=some b) (hi:b.id=i) (now:Int):Calls Tryz.prog 68 #[ptr (y.bx i),.int .i64 now] w fun e w'=>e=.returned (.bool (nx 0 b now).2)∧To w own y (s.setB (nx 0 b now).1) w':=by
 refine (bx_call _ _ now _ (h.ob (.bx i) b e).2).mono ?_;rintro e' w' ⟨rfl,h1,h2⟩;subst hi;exact ⟨rfl,To.of (h.bx (b:=(nx 0 b now).1) (by rw [nx_id];exact e) (by rw [nx_id];exact h1) (by rw [nx_id];exact h2))⟩
theorem k_booted {w:World} {own:Nat→Option Tag} {y:Lay} {s:St} (h:Cor w own y s) {i:Int} {b:Bo} (e:s.bx i=some b) (hi:b.id=i) (now:Int):Calls Tryz.prog 130 #[ptr (y.bx i),.int .i64 now] w fun e w'=>e=.returned (.bool (nx 1 b now).2)∧To w own y (s.setB (nx 1 b now).1) w':=by
 refine (bx_booted _ _ now _ (h.ob (.bx i) b e).2).mono ?_;rintro e' w' ⟨rfl,h1,h2⟩;subst hi;exact ⟨rfl,To.of (h.bx (b:=(nx 1 b now).1) (by rw [nx_id];exact e) (by rw [nx_id];exact h1) (by rw [nx_id];exact h2))⟩
theorem k_bdone {w:World} {own:Nat→Option Tag} {y:Lay} {s:St} (h:Cor w own y s) {i:Int} {b:Bo} (e:s.bx i=some b) (hi:b.id=i) (now:Int):Calls Tryz.prog 133 #[ptr (y.bx i),.int .i64 now] w fun e w'=>e=.returned (.bool (nx 2 b now).2)∧To w own y (s.setB (nx 2 b now).1) w':=by
 refine (bx_done _ _ now _ (h.ob (.bx i) b e).2).mono ?_;rintro e' w' ⟨rfl,h1,h2⟩;subst hi;exact ⟨rfl,To.of (h.bx (b:=(nx 2 b now).1) (by rw [nx_id];exact e) (by rw [nx_id];exact h1) (by rw [nx_id];exact h2))⟩
theorem k_bkill {w:World} {own:Nat→Option Tag} {y:Lay} {s:St} (h:Cor w own y s) {i:Int} {b:Bo} (e:s.bx i=some b) (hi:b.id=i) (now:Int):Calls Tryz.prog 128 #[ptr (y.bx i),.int .i64 now] w fun e w'=>e=.returned (.bool (nx 3 b now).2)∧To w own y (s.setB (nx 3 b now).1) w':=by
 refine (bx_kill _ _ now _ (h.ob (.bx i) b e).2).mono ?_;rintro e' w' ⟨rfl,h1,h2⟩;subst hi;exact ⟨rfl,To.of (h.bx (b:=(nx 3 b now).1) (by rw [nx_id];exact e) (by rw [nx_id];exact h1) (by rw [nx_id];exact h2))⟩
theorem k_tokens {w:World} {own:Nat→Option Tag} {y:Lay} {s:St} (h:Cor w own y s) {a:Int} {z r t:Nat} (e:s.tk.a a=some (z,r,t)):Calls Tryz.prog 69 #[ptr (y.bk a)] w fun e w'=>e=.returned (.int .i64 (t:Int))∧w=w':=by
 refine b_tokens _ _ _ _ _ (h.ob (.bk a) _ e).2
theorem k_take {w:World} {own:Nat→Option Tag} {y:Lay} {s:St} (h:Cor w own y s) {a:Int} {z r t:Nat} (e:s.tk.a a=some (z,r,t))  : Calls Tryz.prog 71 #[ptr (y.bk a)] w fun e w'=>e=.returned (.bool (decide (0<t)))∧To w own y { s with tk:=s.tk.set a (z,r,t-1) } w':=by
 refine (b_take _ _ _ _ _ (h.ob (.bk a) _ e).2).mono ?_;rintro e' w' ⟨rfl,h1,h2⟩;exact ⟨rfl,To.of (h.bk e h1 h2)⟩
theorem k_bset {w:World} {own:Nat→Option Tag} {y:Lay} {s:St} (h:Cor w own y s) {a:Int} {z r t:Nat} (e:s.tk.a a=some (z,r,t)) (u v:Int):Calls Tryz.prog 74 #[ptr (y.bk a),.int .i64 u,.int .i64 v] w fun e w'=>e=.returned (.tuple #[])∧To w own y { s with tk:=s.tk.set a (bnd u,bnd v,min t (bnd u)) } w':=by
 refine (b_set _ _ _ _ _ _ _ (h.ob (.bk a) _ e).2).mono ?_;rintro e' w' ⟨rfl,h1,h2⟩;exact ⟨rfl,To.of (h.bk e h1 h2)⟩
theorem big_pc {w:World} {own:Nat→Option Tag} {y:Lay} {s:St} (h:Cor w own y s) {x:Int} {p:Pl} (e:s.pl.a x=some p):HR.Cq (fun j=>own j=some (.pc x)∨w.heap.size≤j) w (y.pc x) p.cl p.cn p.ca:=(h.ob (.pc x) p e).mono (fun _ q=>Or.inl q)
theorem only_pc {w w':World} {own:Nat→Option Tag} {x:Int} (ho:Only w w' (fun j=>own j=some (.pc x)∨w.heap.size≤j)):Only w w' (fun j=>own j=some (.pc x)) :=
 ⟨ho.os,ho.tape,ho.output,ho.size,fun k hk hn=>ho.block k hk (fun q=>q.elim hn (fun q=>by omega))⟩
theorem k_wdrop {w:World} {own:Nat→Option Tag} {y:Lay} {s:St} (h:Cor w own y s) {x:Int} {p:Pl} (e:s.pl.a x=some p) (i:Int) (hi:(KL i).wf=true) (hn:p.cn<1073741824):Calls Tryz.prog 145 #[ptr (y.pc x),.int .i64 i] w fun e w'=>e=.returned (.bool (p.ca i).isSome)∧To w own y (s.setP x { p with cl:=p.cl,cn:=if (p.ca i).isSome then p.cn-1 else p.cn,ca:=updZ p.ca i none }) w':=by
 cases hA:p.ca i with
 | none =>
  refine (HR.w_drop0 _ _ _ _ _ i (big_pc h e) hi hA (fun _ q=>Or.inr q)).mono ?_;rintro e' w' ⟨rfl,h1,h2⟩;refine ⟨rfl,(To.of (h.pc e h1 (fun j q=>q) (only_pc h2))).cast ?_⟩;rw [updZ_id _ hA];rfl
 | some v =>
  have h0:=((h.ob (.pc x) p e).ids hA).2.2.2;refine (HR.w_drop _ _ _ _ _ i v (big_pc h e) hA hn (p.cn-1) (by omega) (fun _ q=>Or.inr q)).mono ?_
  rintro e' w' ⟨rfl,h1,h2⟩;exact ⟨rfl,To.of (h.pc e h1 (fun j q=>q) (only_pc h2))⟩
theorem k_wset {w:World} {own:Nat→Option Tag} {y:Lay} {s:St} (h:Cor w own y s) {x:Int} {p:Pl} (e:s.pl.a x=some p) (i:Int) (of co m:Nat) (hi:(KL i).wf=true) (hcl:p.cl<18446744073709551616) (hok:of*co<18446744073709551616) (hm0:0<m) (hm1:m<18446744073709551616) (hu:p.cl*m+of*co<18446744073709551616) (hn:p.cn<1073741823) :
  Calls Tryz.prog 175 #[ptr (y.pc x),.int .i64 i,.int .u64 (of:Int),.int .u64 (co:Int),.int .u64 (m:Int)] w fun e w'=>e=.returned (.bool true)∧To w own y (s.setP x { p with cl:=p.cl,cn:=if (p.ca i).isSome then p.cn else p.cn+1,ca:=updZ p.ca i (some (p.cl*m+of*co,m,i)) }) w':=by
 refine (HR.w_set _ _ _ _ _ i of co m _ (big_pc h e) hi hcl hok hm0 hm1 rfl hu hn _ rfl (fun _ q=>Or.inr q)).mono ?_;rintro e' w' ⟨rfl,h1,h2⟩;exact ⟨rfl,To.of (h.pc e h1 (fun j q=>q) (only_pc h2))⟩
theorem k_wevict {w:World} {own:Nat→Option Tag} {y:Lay} {s:St} (h:Cor w own y s) {x:Int} {p:Pl} (e:s.pl.a x=some p) (h0:0<p.cn) (hn:p.cn<1073741824):Calls Tryz.prog 162 #[ptr (y.pc x)] w fun e w'=>∃ (i:Int) (v:HR.V),e=.returned (.tuple #[.int .i64 i,.bool true])∧Lst p i v∧To w own y (s.setP x { p with cl:=max p.cl (v.1 / v.2.1),cn:=p.cn-1,ca:=updZ p.ca i none }) w':=by
 refine (HR.w_evict _ _ _ _ _ (big_pc h e) (p.cn-1) (by omega) hn (fun _ q=>Or.inr q)).mono ?_
 rintro e' w' ⟨i,v,rfl,h3,h4,h1,h2⟩;exact ⟨i,v,rfl,⟨h3,h4⟩,To.of (h.pc e h1 (fun j q=>q) (only_pc h2))⟩
theorem ob_setP_id {w:World} {own:Nat→Option Tag} {y:Lay} {s:St} {x:Int} {p p':Pl} (e:s.pl.a x=some p) (hp:p'=p) (t:Tag) (h:Ob w own y (s.setP x p') t):Ob w own y s t:=by
 subst hp
 have:s.setP x p'=s:=by
  unfold St.setP Tb.set;rw [updZ_id _ e,e];rfl
 rw [this] at h;exact h
theorem k_wevict0 {w:World} {own:Nat→Option Tag} {y:Lay} {s:St} (h:Cor w own y s) {x:Int} {p:Pl} (e:s.pl.a x=some p) (h0:p.cn=0):Calls Tryz.prog 162 #[ptr (y.pc x)] w fun e w'=>e=.returned (.tuple #[.int .i64 0,.bool false])∧To w own y s w':=by
 have hb:=big_pc h e;rw [h0] at hb;refine (HR.w_evict0 _ _ _ _ hb (fun _ q=>Or.inr q)).mono ?_;rintro e' w' ⟨rfl,h1,h2⟩;have:=h.pc e h1 (fun j q=>q) (only_pc h2)
 exact ⟨rfl,_,⟨this.1.lt,fun t=>ob_setP_id e (by rw [←h0]) t (this.1.ob t)⟩,this.2⟩
theorem k_hcount {w:World} {own:Nat→Option Tag} {y:Lay} {s:St} (h:Cor w own y s) {f:Int} {g:Fu} (e:s.fu.a f=some g) (x:Int):Calls Tryz.prog 107 #[ptr (y.fh f),.int .i64 x] w fun e w'=>e=.returned (.tuple #[])∧To w own y (s.setG f { g with F:=addF g.F g.o x,o:=addO g.F g.o x }) w':=by
 have hh:=(h.ob (.fh f) g e).2
 have key:Calls Tryz.prog 107 #[ptr (y.fh f),.int .i64 x] w fun e w'=>e=.returned (.tuple #[])∧Hs w' (y.fh f) (addF g.F g.o x) (addO g.F g.o x)∧w.grownBy w' (some (y.fh f)):=by
  unfold addF addO
  by_cases h0:x<0
  ·rw [if_neg (by omega),if_neg (by omega)];exact add_neg _ _ _ _ _ hh h0
  ·have hlim:=hh.1
   by_cases hf:tot g.F+g.o+1=4096
   ·rw [if_pos ⟨by omega,hf⟩,if_pos ⟨by omega,hf⟩]
    by_cases hx:x<240
    ·obtain ⟨n,rfl⟩:∃ n:Nat,x=(n:Int):=⟨x.toNat,by omega⟩
     exact add_in_full _ _ n _ _ hh (by omega) hf
    ·exact add_over_full _ _ x _ _ hh (by omega) hf
   ·rw [if_neg (by omega),if_neg (by omega)]
    by_cases hx:x<240
    ·obtain ⟨n,rfl⟩:∃ n:Nat,x=(n:Int):=⟨x.toNat,by omega⟩
     exact add_in_low _ _ n _ _ hh (by omega) (by omega)
    ·exact add_over_low _ _ x _ _ hh (by omega) (by omega)
 refine key.mono ?_;rintro e' w' ⟨rfl,h1,h2⟩;exact ⟨rfl,To.of (h.fh e h1 h2)⟩
theorem k_rpush {w:World} {own:Nat→Option Tag} {y:Lay} {s:St} (h:Cor w own y s) {f:Int} {g:Fu} (e:s.fu.a f=some g) (x:Int):Calls Tryz.prog 108 #[ptr (y.fr f),.int .i64 x] w fun e w'=>e=.returned (.tuple #[])∧To w own y (s.setG f { g with ys:=last8 (g.ys ++ [x]) }) w':=by
 refine (ring_push _ _ x _ (h.ob (.fr f) g e).2).mono ?_;rintro e' w' ⟨rfl,h1,h2⟩;exact ⟨rfl,To.of (h.fr e h1 h2)⟩
structure Bd (s:St):Prop where
 now:0≤s.now∧s.now≤1099511627776
 last:0≤s.last∧s.last<536870912
 tn:s.tn<1073741823
 mxn:s.mx.n<1073741823
 ahn:s.ah.n<1073741823
 tkn:s.tk.n<1073741823
 fuN:s.fu.n<1073741823
 pln:s.pl.n<1073741823
 out:s.out.length<1073741823
 bx:∀ i b,s.bx i=some b→b.id=i∧1≤i∧i≤s.last∧0≤b.fn∧b.fn<64∧0≤b.ho∧b.ho<32∧1≤b.me∧b.me≤4096∧0≤b.t∧b.t≤1099511627776
 fu:∀ f g,s.fu.a f=some g→0≤f∧f<64∧0≤g.acc∧g.acc<16∧1≤g.mem∧g.mem≤4096∧0≤g.cost∧g.cost≤1000∧0≤g.keep∧g.keep≤1000∧0≤g.often∧g.often≤1000∧-1≤g.ended∧g.ended≤s.now∧0≤g.unt∧g.unt≤4398046511104∧g.pi.n<1073741823∧g.lo.n<1073741823
 pl:∀ h p,s.pl.a h=some p→0≤h∧h<32∧p.cn<1073741823∧p.cl≤1125899906842624∧-4398046511104≤p.sp∧p.sp≤4398046511104∧p.bo.n<1073741823
theorem wfK {x:Int} (h:-9223372036854775808≤x) (k:x≤9223372036854775807):(KL x).wf=true:=Go.WalkArith.wf_i64 ⟨h,k⟩
theorem Cor.c0 {w:World} {own:Nat→Option Tag} {y:Lay} {s:St} (h:Cor w own y s):w.cell? ⟨y.c,0,none⟩=some (.int .i64 s.now):=by
 obtain ⟨_,v,G,h1,_⟩:=h.ob .core;exact cellL h1 0 _ rfl
theorem Cor.c1 {w:World} {own:Nat→Option Tag} {y:Lay} {s:St} (h:Cor w own y s):w.cell? ⟨y.c,1,none⟩=some (.int .i64 s.last):=by
 obtain ⟨_,v,G,h1,_⟩:=h.ob .core;exact cellL h1 1 _ rfl
theorem Cor.c2 {w:World} {own:Nat→Option Tag} {y:Lay} {s:St} (h:Cor w own y s):w.cell? ⟨y.c,2,none⟩=some (ptr y.l):=by
 obtain ⟨_,v,G,h1,_⟩:=h.ob .core;exact cellL h1 2 _ rfl
theorem Cor.c3 {w:World} {own:Nat→Option Tag} {y:Lay} {s:St} (h:Cor w own y s):w.cell? ⟨y.c,3,none⟩=some (.map (some y.mb)):=by
 obtain ⟨_,v,G,h1,_⟩:=h.ob .core;exact cellL h1 3 _ rfl
theorem Cor.c4 {w:World} {own:Nat→Option Tag} {y:Lay} {s:St} (h:Cor w own y s):w.cell? ⟨y.c,4,none⟩=some (.map (some y.mf)):=by
 obtain ⟨_,v,G,h1,_⟩:=h.ob .core;exact cellL h1 4 _ rfl
theorem Cor.c5 {w:World} {own:Nat→Option Tag} {y:Lay} {s:St} (h:Cor w own y s):w.cell? ⟨y.c,5,none⟩=some (ptr y.h):=by
 obtain ⟨_,v,G,h1,_⟩:=h.ob .core;exact cellL h1 5 _ rfl
theorem Cor.c6 {w:World} {own:Nat→Option Tag} {y:Lay} {s:St} (h:Cor w own y s):w.cell? ⟨y.c,6,none⟩=some (.map (some y.mp)):=by
 obtain ⟨_,v,G,h1,_⟩:=h.ob .core;exact cellL h1 6 _ rfl
theorem Cor.c7 {w:World} {own:Nat→Option Tag} {y:Lay} {s:St} (h:Cor w own y s):w.cell? ⟨y.c,7,none⟩=some (.map (some y.mx)):=by
 obtain ⟨_,v,G,h1,_⟩:=h.ob .core;exact cellL h1 7 _ rfl
theorem Cor.c8 {w:World} {own:Nat→Option Tag} {y:Lay} {s:St} (h:Cor w own y s):w.cell? ⟨y.c,8,none⟩=some (.map (some y.ma)):=by
 obtain ⟨_,v,G,h1,_⟩:=h.ob .core;exact cellL h1 8 _ rfl
theorem Cor.c9 {w:World} {own:Nat→Option Tag} {y:Lay} {s:St} (h:Cor w own y s):w.cell? ⟨y.c,9,none⟩=some (ptr y.t):=by
 obtain ⟨_,v,G,h1,_⟩:=h.ob .core;exact cellL h1 9 _ rfl
theorem Cor.b0 {w:World} {own:Nat→Option Tag} {y:Lay} {s:St} (h:Cor w own y s) {i:Int} {b:Bo} (e:s.bx i=some b):w.cell? ⟨y.bx i,0,none⟩=some (.int .i64 b.id):=cellL ((h.ob (.bx i)) b e).2 0 _ rfl
theorem Cor.b1 {w:World} {own:Nat→Option Tag} {y:Lay} {s:St} (h:Cor w own y s) {i:Int} {b:Bo} (e:s.bx i=some b):w.cell? ⟨y.bx i,1,none⟩=some (.int .i64 b.fn):=cellL ((h.ob (.bx i)) b e).2 1 _ rfl
theorem Cor.b2 {w:World} {own:Nat→Option Tag} {y:Lay} {s:St} (h:Cor w own y s) {i:Int} {b:Bo} (e:s.bx i=some b):w.cell? ⟨y.bx i,2,none⟩=some (.int .i64 b.ho):=cellL ((h.ob (.bx i)) b e).2 2 _ rfl
theorem Cor.b3 {w:World} {own:Nat→Option Tag} {y:Lay} {s:St} (h:Cor w own y s) {i:Int} {b:Bo} (e:s.bx i=some b):w.cell? ⟨y.bx i,3,none⟩=some (.int .i64 b.me):=cellL ((h.ob (.bx i)) b e).2 3 _ rfl
theorem Cor.b4 {w:World} {own:Nat→Option Tag} {y:Lay} {s:St} (h:Cor w own y s) {i:Int} {b:Bo} (e:s.bx i=some b):w.cell? ⟨y.bx i,4,none⟩=some (.int .i64 b.q.st):=cellL ((h.ob (.bx i)) b e).2 4 _ rfl
theorem Cor.b5 {w:World} {own:Nat→Option Tag} {y:Lay} {s:St} (h:Cor w own y s) {i:Int} {b:Bo} (e:s.bx i=some b):w.cell? ⟨y.bx i,5,none⟩=some (.bool b.q.bd):=cellL ((h.ob (.bx i)) b e).2 5 _ rfl
theorem Cor.b6 {w:World} {own:Nat→Option Tag} {y:Lay} {s:St} (h:Cor w own y s) {i:Int} {b:Bo} (e:s.bx i=some b):w.cell? ⟨y.bx i,6,none⟩=some (.bool b.p):=cellL ((h.ob (.bx i)) b e).2 6 _ rfl
theorem Cor.b7 {w:World} {own:Nat→Option Tag} {y:Lay} {s:St} (h:Cor w own y s) {i:Int} {b:Bo} (e:s.bx i=some b):w.cell? ⟨y.bx i,7,none⟩=some (.int .i64 b.t):=cellL ((h.ob (.bx i)) b e).2 7 _ rfl
theorem Cor.g0 {w:World} {own:Nat→Option Tag} {y:Lay} {s:St} (h:Cor w own y s) {f:Int} {g:Fu} (e:s.fu.a f=some g):w.cell? ⟨y.fb f,0,none⟩=some (.int .i64 f):=cellL ((h.ob (.fb f)) g e).2 0 _ rfl
theorem Cor.g1 {w:World} {own:Nat→Option Tag} {y:Lay} {s:St} (h:Cor w own y s) {f:Int} {g:Fu} (e:s.fu.a f=some g):w.cell? ⟨y.fb f,1,none⟩=some (.int .i64 g.acc):=cellL ((h.ob (.fb f)) g e).2 1 _ rfl
theorem Cor.g2 {w:World} {own:Nat→Option Tag} {y:Lay} {s:St} (h:Cor w own y s) {f:Int} {g:Fu} (e:s.fu.a f=some g):w.cell? ⟨y.fb f,2,none⟩=some (.int .i64 g.mem):=cellL ((h.ob (.fb f)) g e).2 2 _ rfl
theorem Cor.g3 {w:World} {own:Nat→Option Tag} {y:Lay} {s:St} (h:Cor w own y s) {f:Int} {g:Fu} (e:s.fu.a f=some g):w.cell? ⟨y.fb f,3,none⟩=some (.int .i64 g.cost):=cellL ((h.ob (.fb f)) g e).2 3 _ rfl
theorem Cor.g4 {w:World} {own:Nat→Option Tag} {y:Lay} {s:St} (h:Cor w own y s) {f:Int} {g:Fu} (e:s.fu.a f=some g):w.cell? ⟨y.fb f,4,none⟩=some (.int .i64 g.keep):=cellL ((h.ob (.fb f)) g e).2 4 _ rfl
theorem Cor.g5 {w:World} {own:Nat→Option Tag} {y:Lay} {s:St} (h:Cor w own y s) {f:Int} {g:Fu} (e:s.fu.a f=some g):w.cell? ⟨y.fb f,5,none⟩=some (.int .i64 g.often):=cellL ((h.ob (.fb f)) g e).2 5 _ rfl
theorem Cor.g6 {w:World} {own:Nat→Option Tag} {y:Lay} {s:St} (h:Cor w own y s) {f:Int} {g:Fu} (e:s.fu.a f=some g):w.cell? ⟨y.fb f,6,none⟩=some (.int .i64 g.ended):=cellL ((h.ob (.fb f)) g e).2 6 _ rfl
theorem Cor.g7 {w:World} {own:Nat→Option Tag} {y:Lay} {s:St} (h:Cor w own y s) {f:Int} {g:Fu} (e:s.fu.a f=some g):w.cell? ⟨y.fb f,7,none⟩=some (.int .i64 g.unt):=cellL ((h.ob (.fb f)) g e).2 7 _ rfl
theorem Cor.g8 {w:World} {own:Nat→Option Tag} {y:Lay} {s:St} (h:Cor w own y s) {f:Int} {g:Fu} (e:s.fu.a f=some g):w.cell? ⟨y.fb f,8,none⟩=some (ptr (y.fh f)):=cellL ((h.ob (.fb f)) g e).2 8 _ rfl
theorem Cor.g9 {w:World} {own:Nat→Option Tag} {y:Lay} {s:St} (h:Cor w own y s) {f:Int} {g:Fu} (e:s.fu.a f=some g):w.cell? ⟨y.fb f,9,none⟩=some (ptr (y.fr f)):=cellL ((h.ob (.fb f)) g e).2 9 _ rfl
theorem Cor.g10 {w:World} {own:Nat→Option Tag} {y:Lay} {s:St} (h:Cor w own y s) {f:Int} {g:Fu} (e:s.fu.a f=some g):w.cell? ⟨y.fb f,10,none⟩=some (.map (some (y.fp f))):=cellL ((h.ob (.fb f)) g e).2 10 _ rfl
theorem Cor.g11 {w:World} {own:Nat→Option Tag} {y:Lay} {s:St} (h:Cor w own y s) {f:Int} {g:Fu} (e:s.fu.a f=some g):w.cell? ⟨y.fb f,11,none⟩=some (.map (some (y.fl f))):=cellL ((h.ob (.fb f)) g e).2 11 _ rfl
theorem Cor.p0 {w:World} {own:Nat→Option Tag} {y:Lay} {s:St} (h:Cor w own y s) {x:Int} {p:Pl} (e:s.pl.a x=some p):w.cell? ⟨y.pb x,0,none⟩=some (.map (some (y.pm x))):=cellL ((h.ob (.pb x)) p e).2 0 _ rfl
theorem Cor.p1 {w:World} {own:Nat→Option Tag} {y:Lay} {s:St} (h:Cor w own y s) {x:Int} {p:Pl} (e:s.pl.a x=some p):w.cell? ⟨y.pb x,1,none⟩=some (ptr (y.pc x)):=cellL ((h.ob (.pb x)) p e).2 1 _ rfl
theorem Cor.p2 {w:World} {own:Nat→Option Tag} {y:Lay} {s:St} (h:Cor w own y s) {x:Int} {p:Pl} (e:s.pl.a x=some p):w.cell? ⟨y.pb x,2,none⟩=some (.int .i64 p.sp):=cellL ((h.ob (.pb x)) p e).2 2 _ rfl
theorem zeroPl (w:World):(zeroValue 163).run Tryz.prog w=.ok (.pointer none) w:=by kernel_rfl
theorem zeroFu (w:World):(zeroValue 114).run Tryz.prog w=.ok (.pointer none) w:=by kernel_rfl
theorem zeroBx (w:World):(zeroValue 45).run Tryz.prog w=.ok (.pointer none) w:=by kernel_rfl
theorem zeroBk (w:World):(zeroValue 153).run Tryz.prog w=.ok (.pointer none) w:=by kernel_rfl
theorem zeroI64 (w:World):(zeroValue 2).run Tryz.prog w=.ok (.int .i64 0) w:=by kernel_rfl
theorem mp_run_at {P:Program} {w:World} {b:Nat} {M:Int→Option Value} {c:Nat} {k e t:TypeId} (h:Mp P k w b M c) (hk:P.underlying k=some (.int .i64)) (ht:P.underlying t=some (.map k e)) {z:Value} (hz:(zeroValue e).run P w=.ok z w) {n:Int} (hw:(KL n).wf=true) :
  (Instr.lookup t (.map (some b)) (.int .i64 n) false).run P w=.ok ((M n).getD z) w:=by
 obtain ⟨D,h1,h2,h3⟩:=h;obtain ⟨v,ps,hrun,hv⟩:=h1.lookup (int_keyed hk) ht hz (zd:=.held z) (zp:=[]) rfl (keyOf_int_mk hk hw);obtain ⟨h4,h5⟩:=h3 n hw
 have:v=(M n).getD z:=by
  unfold RV at hv
  cases hr:M n with
  | none =>
   rw [hr] at h4;rw [Maps.atKey_of_not_has h4] at hv;simp at hv;exact hv.1
  | some u =>
   rw [h5 u hr] at hv;simp at hv;exact hv.1
 rw [←this];exact hrun
theorem mp_run_ok {P:Program} {w:World} {b:Nat} {M:Int→Option Value} {c:Nat} {k e t:TypeId} (h:Mp P k w b M c) (hk:P.underlying k=some (.int .i64)) (ht:P.underlying t=some (.map k e)) {z:Value} (hz:(zeroValue e).run P w=.ok z w) {n:Int} (hw:(KL n).wf=true) :
  (Instr.lookup t (.map (some b)) (.int .i64 n) true).run P w=.ok (.tuple #[(M n).getD z,.bool (M n).isSome]) w:=by
 obtain ⟨D,h1,h2,h3⟩:=h;obtain ⟨es,clock,hb,F,hn,hD⟩:=h1;obtain ⟨h4,h5⟩:=h3 n hw
 rcases Maps.fit_look true (int_keyed hk) ht hz hb F (keyOf_int_mk hk hw) with ⟨hrun,_,hat⟩ | ⟨e0,y,_,_,hrun,hRv,hat,_⟩
 ·cases hr:M n with
  | none=>simpa using hrun
  | some v =>
   have:=h5 v hr (.lit (.bool true))
   rw [hD,hat] at this
   cases this
 ·have hy:y.1=.held e0.val:=by unfold RV at hRv;cases hRv;rfl
  cases hr:M n with
  | none =>
   rw [hr] at h4;have:=Maps.atKey_of_not_has h4 (z:=(.lit (.bool true):DataW Value))
   rw [hD,hat,hy] at this
   cases this
  | some v =>
   have:=h5 v hr (.lit (.bool true))
   rw [hD,hat,hy] at this
   cases this
   simpa using hrun
theorem Cor.lp {w:World} {own:Nat→Option Tag} {y:Lay} {s:St} (h:Cor w own y s) {n:Int} {v:_} (e:s.pl.a n=some v) (hw:(KL n).wf=true):(Instr.lookup 56 (.map (some y.mp)) (.int .i64 n) false).run Tryz.prog w=.ok (ptr (y.pb n)) w:=by
 have:=mp_run_at (h.ob .mp).2 Tryz.underlying3 Tryz.underlying56 (zeroPl w) hw
 rw [e] at this;exact this
theorem Cor.lf {w:World} {own:Nat→Option Tag} {y:Lay} {s:St} (h:Cor w own y s) {n:Int} {v:_} (e:s.fu.a n=some v) (hw:(KL n).wf=true):(Instr.lookup 54 (.map (some y.mf)) (.int .i64 n) false).run Tryz.prog w=.ok (ptr (y.fb n)) w:=by
 have:=mp_run_at (h.ob .mf).2 Tryz.underlying3 Tryz.underlying54 (zeroFu w) hw
 rw [e] at this;exact this
theorem Cor.lfK {w:World} {own:Nat→Option Tag} {y:Lay} {s:St} (h:Cor w own y s) {n:Int} {v:_} (e:s.fu.a n=some v) (hw:(KL n).wf=true):(Instr.lookup 54 (.map (some y.mf)) (.int .i64 n) true).run Tryz.prog w=.ok (.tuple #[ptr (y.fb n),.bool true]) w:=by
 have:=mp_run_ok (h.ob .mf).2 Tryz.underlying3 Tryz.underlying54 (zeroFu w) hw
 rw [e] at this;exact this
theorem Cor.lfN {w:World} {own:Nat→Option Tag} {y:Lay} {s:St} (h:Cor w own y s) {n:Int} (e:s.fu.a n=none) (hw:(KL n).wf=true):(Instr.lookup 54 (.map (some y.mf)) (.int .i64 n) true).run Tryz.prog w=.ok (.tuple #[.pointer none,.bool false]) w:=by
 have:=mp_run_ok (h.ob .mf).2 Tryz.underlying3 Tryz.underlying54 (zeroFu w) hw
 rw [e] at this;exact this
theorem Cor.lx {w:World} {own:Nat→Option Tag} {y:Lay} {s:St} (h:Cor w own y s) {n:Int} {v:_} (e:s.mx.a n=some v) (hw:(KL n).wf=true):(Instr.lookup 57 (.map (some y.mx)) (.int .i64 n) false).run Tryz.prog w=.ok (ptr (y.bx n)) w:=by
 have:=mp_run_at (h.ob .mx).2 Tryz.underlying3 Tryz.underlying57 (zeroBx w) hw
 rw [e] at this;exact this
theorem Cor.lxK {w:World} {own:Nat→Option Tag} {y:Lay} {s:St} (h:Cor w own y s) {n:Int} {v:_} (e:s.mx.a n=some v) (hw:(KL n).wf=true):(Instr.lookup 57 (.map (some y.mx)) (.int .i64 n) true).run Tryz.prog w=.ok (.tuple #[ptr (y.bx n),.bool true]) w:=by
 have:=mp_run_ok (h.ob .mx).2 Tryz.underlying3 Tryz.underlying57 (zeroBx w) hw
 rw [e] at this;exact this
theorem Cor.lxN {w:World} {own:Nat→Option Tag} {y:Lay} {s:St} (h:Cor w own y s) {n:Int} (e:s.mx.a n=none) (hw:(KL n).wf=true):(Instr.lookup 57 (.map (some y.mx)) (.int .i64 n) true).run Tryz.prog w=.ok (.tuple #[.pointer none,.bool false]) w:=by
 have:=mp_run_ok (h.ob .mx).2 Tryz.underlying3 Tryz.underlying57 (zeroBx w) hw
 rw [e] at this;exact this
theorem Cor.lb {w:World} {own:Nat→Option Tag} {y:Lay} {s:St} (h:Cor w own y s) {n:Int} {v:_} (e:s.tk.a n=some v) (hw:(KL n).wf=true):(Instr.lookup 53 (.map (some y.mb)) (.int .i64 n) false).run Tryz.prog w=.ok (ptr (y.bk n)) w:=by
 have:=mp_run_at (h.ob .mb).2 Tryz.underlying3 Tryz.underlying53 (zeroBk w) hw
 rw [e] at this;exact this
theorem Cor.lbK {w:World} {own:Nat→Option Tag} {y:Lay} {s:St} (h:Cor w own y s) {n:Int} {v:_} (e:s.tk.a n=some v) (hw:(KL n).wf=true):(Instr.lookup 53 (.map (some y.mb)) (.int .i64 n) true).run Tryz.prog w=.ok (.tuple #[ptr (y.bk n),.bool true]) w:=by
 have:=mp_run_ok (h.ob .mb).2 Tryz.underlying3 Tryz.underlying53 (zeroBk w) hw
 rw [e] at this;exact this
theorem Cor.lbN {w:World} {own:Nat→Option Tag} {y:Lay} {s:St} (h:Cor w own y s) {n:Int} (e:s.tk.a n=none) (hw:(KL n).wf=true):(Instr.lookup 53 (.map (some y.mb)) (.int .i64 n) true).run Tryz.prog w=.ok (.tuple #[.pointer none,.bool false]) w:=by
 have:=mp_run_ok (h.ob .mb).2 Tryz.underlying3 Tryz.underlying53 (zeroBk w) hw
 rw [e] at this;exact this
theorem Cor.la {w:World} {own:Nat→Option Tag} {y:Lay} {s:St} (h:Cor w own y s) {n:Int} (hw:(KL n).wf=true):(Instr.lookup 58 (.map (some y.ma)) (.int .i64 n) true).run Tryz.prog w=.ok (.tuple #[.int .i64 ((s.ah.a n).getD 0),.bool (s.ah.a n).isSome]) w:=by
 have:=mp_run_ok (h.ob .ma).2 Tryz.underlying3 Tryz.underlying58 (zeroI64 w) hw
 dsimp only at this;rw [isSome_map] at this;rw [this]
 cases s.ah.a n <;> rfl
end Go.Proofs.YthdengocipfgiaaGreat.W.C
