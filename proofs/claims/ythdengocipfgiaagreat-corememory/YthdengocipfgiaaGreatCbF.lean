import Derived.Test.YthdengocipfgiaaGreatCbD
import Derived.Test.YthdengocipfgiaaGreatCbE
import Derived.Test.YthdengocipfgiaaGreatCbC
/- A part of what core's laws stand on. -/
set_option linter.unusedVariables false
set_option linter.unusedSimpArgs false
set_option maxRecDepth 100000
set_option maxHeartbeats 3200000
namespace Go.Proofs.YthdengocipfgiaaGreat.W.C
open Go.RowKit Go.Proofs.YthdengocipfgiaaGreat.W
attribute [local go_sem] Oper.semAt_some
theorem c_backF {w:World} (v:Value) (A:Option Addr) (n c:Nat) (hv:v=.slice A n c):Calls Tryz.prog 147 #[v] w fun e w'=>e=.returned (.func (.func 163) #[] #[ptr w.heap.size])∧w'=w.alloc (.cells #[v] 73):=by
 subst hv
 go_enter Tryz.func147,Tryz.ntmps147
 go_wp2
 go_ret
 exact ⟨rfl,rfl⟩
theorem c_back {l Bp g off n cap:Nat} {vv:Nat→Value} (K:Nat→World→Prop) (X:World→Prop) (hn:n<4611686018427387904)
  (hC:∀ j W,K j W→W.cell? ⟨Bp,0,none⟩=some (.slice (some ⟨g,off,none⟩) n cap)∧∀ i,i<n→W.cell? ⟨g,off+i,none⟩=some (vv i))
  (hR:∀ j W,j<n→K (j+1) W→∃ fn' t' a' b',(Instr.yield l #[.int .i64 (j:Int),vv j]).run Tryz.prog W=.ok (.round l fn' t' a' b') W∧RoundIn Fence.wide 3 Tryz.prog l fn' t' a' b' W fun e W'=>(e=.returned (.bool true)∧K j W')∨(e=.returned (.bool false)∧X W'))
  {w:World} (h:K n w):Calls Tryz.prog 163 (#[.func (.yield l) #[] #[]] ++ #[ptr Bp]) w fun e W=>(∃ v,e=.returned v)∧(K 0 W∨X W):=by
 have c0:=(hC n w h).1;have HC:=Lib.hid hC;have HR:=Lib.hid hR;clear hC hR
 go_enter Tryz.func163,Tryz.ntmps163
 go_wp2_with fail
 clear c0
 go_loopg [3] n (fun gk v3 wr=>Hid (gk≤n)∧v3=.int .i64 ((gk:Int)-1)∧Hid (K gk wr))
 case atStart=>exact ⟨Lib.hid (Nat.le_refl _),by go_num,Lib.hid h⟩
 case round =>
  clear h;obtain ⟨HG,rfl,HK⟩:=hrel
  cases gk with
  | zero =>
   go_wp2_with fail
   go_end0
   exact ⟨⟨_,rfl⟩,Or.inl HK.out⟩
  | succ j =>
   obtain ⟨fn',tmps',assign',body',hy,hR⟩:=HR.out j wr (by have:=HG.out;omega) HK.out
   have c0:=(HC.out _ _ HK.out).1;have c1:=(HC.out _ _ HK.out).2 j (by have:=HG.out;omega)
   have hj:j<n:=by have:=HG.out;omega
   have hjI:(j:Int)<(n:Int):=by omega
   have he:((j+1:Nat):Int)-1=(j:Int):=by omega
   rw [he];clear he;go_upto_region 3 with (fail)
   refine (wpIn_wide (n:=4)).1 ?_
   gi_wp2
   refine hR.mono ?_;rintro e w4 (⟨rfl,hk4⟩ | ⟨rfl,hx4⟩)
   ·have HK4:=Lib.hid hk4
    clear hk4 hR hy c0 c1
    gi_wp2
    go_wp2_with fail
    go_roundg j
    case measure=>omega
    case rel=>exact ⟨Lib.hid (by omega),by go_num,HK4⟩
   ·clear hR hy c0 c1
    gi_wp2
    go_wp2_with fail
    (try simp only [Exit.inBlock,Exit.then]);refine bodyPost_ret (results_none rfl _ _ _) rfl ?_
    exact ⟨⟨_,rfl⟩,Or.inr hx4⟩
end Go.Proofs.YthdengocipfgiaaGreat.W.C
namespace Go.Proofs.YthdengocipfgiaaGreat.W.C
open Go.RowKit Go.Proofs.YthdengocipfgiaaGreat.W
abbrev Lay.at_ (y:Lay) (b:Int→Nat):Lay:={ y with bx:=b }
structure Iv3 (I:Nat→St→Prop):Prop where
 v:∀ K,Iv2 (I K)
 bo:∀ K s f g x,I (K+1) s→s.fu.a f=some g→upB s.H x=true→g.mem≤fr s.H x→Unused s (s.last+1)∧I K (s.boot f x)
 lo:∀ K s f g i,I K s→s.fu.a f=some g→((g.pi.a i).isSome=true∨(g.lo.a i).isSome=true)→∃ b,s.bx i=some b∧b.q≠.dead∧b.fn=f
 pn:∀ K s f g i,I K s→s.fu.a f=some g→(g.lo.a i).isSome=true→(g.pi.a i).isSome=false∧I K (s.pin i)
 rm:∀ K s mem,I K s→I K (s.room mem).1∧(∀ x,(s.room mem).2=some x→upB (s.room mem).1.H x=true∧mem≤fr (s.room mem).1.H x)∧∀ f g,s.fu.a f=some g→∃ g',(s.room mem).1.fu.a f=some g'∧g'.mem=g.mem∧g'.keep=g.keep∧g'.pi.n=g.pi.n
theorem pin_fu {s:St} {f i:Int} {g:Fu} {b:Bo} (eg:s.fu.a f=some g) (hb:s.bx i=some b) (hf:b.fn=f):(s.pin i).fu.a f=some { g with lo:=g.lo.del i,pi:=g.pi.set i () }:=by
 subst hf;have h1:s.B i=b:=St.B_of hb;show (s.fu.set (s.B i).fn _).a b.fn=_;rw [h1,Tb.set_at,St.G_of eg]
theorem boot_fu {s:St} {f x:Int} {g:Fu} (eg:s.fu.a f=some g):(s.boot f x).fu.a f=some { g with lo:=g.lo.set (s.last+1) () }:=by
 show (s.fu.set f _).a f=_;rw [Tb.set_at,St.G_of eg]
theorem boot_bx {s:St} {f x:Int}:(s.boot f x).bx (s.last+1)=some ⟨s.last+1,f,x,(s.G f).mem,.boot,false,s.now⟩:=updZ_same _ _ _
theorem boot_pl {s:St} {f x:Int}:(s.boot f x).pl.a x=some { s.P x with bo:=(s.P x).bo.set (s.last+1) () }:=Tb.set_at _ _ _
theorem Tb.set_n {α:Type} {m:Tb α} {i:Int} {v:α} (h:(m.a i).isSome=false):(m.set i v).n=m.n+1:=by unfold Tb.set;rw [h];rfl
theorem Tb.del_other {α:Type} {m:Tb α} {i j:Int} (h:j≠i):(m.del i).a j=m.a j:=updZ_ne _ _ h
theorem pinL_cons {s:St} {f i:Int} {l:List Int} (h:((s.G f).pi.n:Int)≠(s.G f).keep):s.pinL f (i :: l)=(s.pin i).pinL f l:=by
 rw [St.pinL,if_neg h]
theorem pinL_stop {s:St} {f i:Int} {l:List Int} (h:((s.G f).pi.n:Int)=(s.G f).keep):s.pinL f (i :: l)=(s,true):=by
 rw [St.pinL,if_pos h]
theorem bootN_stop {s:St} {f:Int} {n:Nat} (h:¬ ((s.G f).pi.n:Int)<(s.G f).keep):s.bootN f n=s:=by
 cases n with
 | zero=>rfl
 | succ n=>rw [St.bootN,if_neg h]
theorem bootN_some {s s1:St} {f x:Int} {n:Nat} (h:((s.G f).pi.n:Int)<(s.G f).keep) (hr:s.room (s.G f).mem=(s1,some x)):s.bootN f (n+1)=((s1.boot f x).pin (s1.last+1)).bootN f n:=by
 rw [St.bootN,if_pos h,hr]
theorem bootN_none {s s1:St} {f:Int} {n:Nat} (h:((s.G f).pi.n:Int)<(s.G f).keep) (hr:s.room (s.G f).mem=(s1,none)):s.bootN f (n+1)=s1:=by
 rw [St.bootN,if_pos h,hr]
theorem more_stop {s t:St} {f:Int} (h:s.pinL f (s.pinnable f)=(t,true)):s.more f=t:=by
 unfold St.more;rw [h];rfl
theorem more_go {s t:St} {f:Int} (h:s.pinL f (s.pinnable f)=(t,false)):s.more f=t.bootN f (t.G f).keep.toNat:=by
 unfold St.more;rw [h];rfl
theorem lies_cell {w:World} {base:Nat} {e:TypeId} {g n cap:Nat} {vs:List Value} (h:w.ownsRow base e 1 (.slice (some ⟨g,0,none⟩) n cap) n vs) {k:Nat} (hk:k<vs.length):w.cell? ⟨g,k,none⟩=some vs[k]:=by
 obtain ⟨ad,he,_,hc⟩:=(lies_own h).at_ hk
 cases he
 rw [add_lit0] at hc;exact hc
theorem sizeBP:(Tryz.prog.info? 45).map (·.size)=some 1:=by kernel_rfl
theorem c_more {I:Nat→St→Prop} (V:Iv3 I) {w:World} {own:Nat→Option Tag} {y:Lay} {s:St} (h:Cor w own y s) {f:Int} {gf:Fu} (eg:s.fu.a f=some gf) {K:Nat} (hI:I (K+gf.keep.toNat) s) :
  Calls Tryz.prog 124 #[ptr y.c,ptr (y.fb f)] w fun e w'=>e=.returned (.tuple #[])∧∃ b,To w own (y.at_ b) (s.more f) w':=by
 have B:=(V.v _).bd _ hI;have bg:=B.fu f gf eg;have kp:=c_pinnable h B eg (fun i q=>by obtain ⟨b,hb,_⟩:=V.lo _ _ _ _ i hI eg (Or.inr q);exact ⟨b,hb⟩) (by omega)
 have hLO:∀ i ∈ s.pinnable f,(gf.lo.a i).isSome=true:=fun i q=>by
  have:=mem_pinnable.1 q
  rw [St.G_of eg] at this;exact this.2.2.1
 have hND:(s.pinnable f).Nodup:=(pinnable_pw s f).imp (fun {a b} q e=>by subst e;unfold lR at q;omega)
 have HM1:=Lib.hid (fun t=>more_stop (s:=s) (t:=t) (f:=f));have HM2:=Lib.hid (fun t=>more_go (s:=s) (t:=t) (f:=f));obtain ⟨R,hR⟩:∃ R,s.pinnable f=R:=⟨_,rfl⟩;obtain ⟨r,hr⟩:∃ r,s.pinL f R=r:=⟨_,rfl⟩;obtain ⟨z,hz⟩:∃ z,s.more f=z:=⟨_,rfl⟩;rw [hR] at kp hLO hND HM1 HM2;rw [hr,hz] at HM1 HM2;rw [hz];have HLO:=Lib.hid hLO;have HND:=Lib.hid hND;have H0:=Lib.hid h;have HR0:=Lib.hid hr;have HI0:=Lib.hid hI;have HEG:=Lib.hid eg;obtain ⟨kk,hkk⟩:∃ kk,gf.keep=kk:=⟨_,rfl⟩;obtain ⟨me,hme⟩:∃ me,gf.mem=me:=⟨_,rfl⟩;have HKK:=Lib.hid hkk;have HME:=Lib.hid hme;have HBG:=Lib.hid (show 0≤kk∧kk≤1000 by omega)
 have KP:=Lib.hid kp;clear hR hr hz hLO hND hI eg hkk hme bg B h kp
 go_enter Tryz.func124,Tryz.ntmps124
 go_wp2_with fail
 with_reducible refine KP.out.mono ?_
 rintro e w1 ⟨gs,cp,rfl,own1,b1⟩;have h1:=H0.out.below b1;have hgs:=(own_cap own1).2.2;have hgn:own gs=none:=H0.out.fresh hgs;have HC:Hid (∀ k (hk:k<R.length),w1.cell? ⟨gs,k,none⟩=some (ptr (y.bx R[k]))):=Lib.hid (fun k hk=>by have:=lies_cell own1 (k:=k) (by simpa using hk);simpa using this)
 have N1:=Lib.hid (Nx.below own b1);have HGN:=Lib.hid hgn;obtain ⟨N,hN⟩:∃ N,R.length=N:=⟨_,rfl⟩;have HN:=Lib.hid hN;have hNc:=(own_cap own1).1;have hNm:=own_max own1;rw [hN] at hNc;rw [hN];clear own1 b1 hgs hgn hN KP H0;go_wp2_with fail
 go_loopg [12] N (fun gk v12 wr=>∃ (k:Nat) (own':Nat→Option Tag) (sk:St) (g:Fu),v12=.int .i64 (k:Int)∧Hid (k+gk=N)∧Cor wr own' y sk∧Hid (Nx w1 own wr own')∧Hid (I (K+kk.toNat) sk)∧Hid (sk.fu.a f=some g∧g.keep=kk∧g.mem=me∧∀ i ∈ R.drop k,(g.lo.a i).isSome=true)∧Hid (sk.pinL f (R.drop k)=r))
 case atStart=>exact ⟨0,own,s,gf,rfl,Lib.hid (by omega),h1,Lib.hid (Nx.refl _ _),Lib.hid (by have:=HI0.out;rw [HKK.out] at this;exact this),Lib.hid ⟨HEG.out,HKK.out,HME.out,by simpa using HLO.out⟩,Lib.hid (by simpa using HR0.out)⟩
 case round =>
  clear h1;obtain ⟨k,own',sk,g,rfl,HG,hr,HNX,HI,HF,HP⟩:=hrel
  by_cases hk:k<N
  ·have hkI:(k:Int)<(N:Int):=by omega
   have HK:=Lib.hid hk;have hkR:k<R.length:=by rw [HN.out];exact hk
   obtain ⟨i,hi⟩:∃ i,R[k]=i:=⟨_,rfl⟩;have hdr:R.drop k=i :: R.drop (k+1):=by rw [←hi];exact List.drop_eq_getElem_cons hkR
   have cc:wr.cell? ⟨gs,k,none⟩=some (ptr (y.bx i)):=by rw [←hi];exact HNX.out.cell HGN.out (HC.out k hkR)
   have egk:=HF.out.1;have hgl:(g.lo.a i).isSome=true:=HF.out.2.2.2 i (by rw [hdr];simp)
   obtain ⟨pn,hpn⟩:∃ pn:Int,(g.pi.n:Int)=pn:=⟨_,rfl⟩;have q10:=hr.g10 egk;have q4:=hr.g4 egk;have ql:=fun ty=>hr.gpn egk ty;have ql1:=fun j ty=>(hr.drewN j).gpn egk ty;have ql2:=fun ty=>hr.drew.gpn egk ty;rw [HF.out.2.1] at q4;rw [hpn] at ql;rw [hpn] at ql1;rw [hpn] at ql2;have HDR:=Lib.hid hdr;have HGL:=Lib.hid hgl;have HPN:=Lib.hid hpn;clear hk hkR hi hdr hgl hpn
   by_cases hst:pn=kk
   ·have d:(pn == kk)=true:=by simp [hst]
    have HST:=Lib.hid hst;clear hst
    go_wp2_with (first
     | (with_reducible refine wpList_item_at rfl 73 (.tmp 10) (.tmp 12) rfl 45 Tryz.underlying73 sizeBP gs N cp rfl k _ rfl rfl HK.out ?_))
    go_quiet (fail)
    go_wp2_with fail
    (try simp only [Exit.inBlock,Exit.then]);refine bodyPost_ret (results_none rfl _ _ _) rfl ?_
    have hz:z=sk:=HM1.out sk (by
     rw [←HP.out,HDR.out];exact (pinL_stop (by rw [St.G_of HF.out.1,HF.out.2.1,HPN.out];exact HST.out)).symm ▸ rfl)
    rw [hz];exact ⟨rfl,y.bx,own',hr.drewN _,N1.out.trans (HNX.out.trans ⟨(Only.refl _ _).drewN _,fun _ q=>Or.inl q⟩)⟩
   ·have d:(pn == kk)=false:=by simp [hst]
    have HST:=Lib.hid hst;clear hst;obtain ⟨b,hb,hbq,hbf⟩:=V.lo _ _ _ _ i HI.out HF.out.1 (Or.inr HGL.out);obtain ⟨⟨p,hp⟩,_⟩:=(V.v _).put _ _ _ HI.out hb hbq;have eg':sk.fu.a b.fn=some g:=by rw [hbf];exact HF.out.1
    have HB:=Lib.hid hb;have HBF:=Lib.hid hbf;have KPI:=Lib.hid (fun j=>c_pin (hr.drewN j) ((V.v _).bd _ HI.out) hb hp eg');clear hb hbq hbf hp eg'
    go_wp2_with (first
     | (with_reducible refine wpList_item_at rfl 73 (.tmp 10) (.tmp 12) rfl 45 Tryz.underlying73 sizeBP gs N cp rfl k _ rfl rfl HK.out ?_))
    go_quiet (fail)
    go_wp2_with fail
    with_reducible refine (KPI.out _).mono ?_
    rintro e w2 ⟨rfl,own2,h2,n2⟩;have NX2:Hid (Nx w1 own w2 own2):=Lib.hid (HNX.out.trans (Nx.trans ⟨(Only.refl _ _).drewN _,fun _ q=>Or.inl q⟩ n2));clear hr KPI n2 cc q10 q4 ql ql1 ql2;go_wp2_with fail
    go_roundg (N-k-1)
    case measure=>have:=HK.out;have:=HG.out;omega
    case rel =>
     refine ⟨k+1,own2,_,_,by go_num,Lib.hid (by have:=HK.out;omega),h2,NX2,Lib.hid (V.pn _ _ _ _ _ HI.out HF.out.1 HGL.out).2,Lib.hid ⟨pin_fu HF.out.1 HB.out HBF.out,HF.out.2.1,HF.out.2.2.1,fun j hj=>?_⟩,Lib.hid ?_⟩
     ·have hnd:=HND.out
      have:(R.drop k).Nodup:=hnd.sublist (List.drop_sublist _ _)
      rw [HDR.out,List.nodup_cons] at this;show ((g.lo.del i).a j).isSome=true;rw [Tb.del_other (fun e=>this.1 (by rw [←e];exact hj))]
      exact HF.out.2.2.2 j (by rw [HDR.out];exact List.mem_cons_of_mem _ hj)
     ·rw [←HP.out,HDR.out]
      exact (pinL_cons (by rw [St.G_of HF.out.1,HF.out.2.1,HPN.out];exact HST.out)).symm
  ·obtain rfl:k=N:=by have:=HG.out;omega
   have hdr:R.drop k=[]:=List.drop_eq_nil_of_le (by rw [HN.out];omega)
   have hz:Hid (z=sk.bootN f kk.toNat):=Lib.hid (by
    have h1:=HP.out;rw [hdr] at h1;have h2:=HM2.out sk h1.symm;rw [St.G_of HF.out.1,HF.out.2.1] at h2;exact h2)
   have HF':=Lib.hid (And.intro HF.out.1 (And.intro HF.out.2.1 HF.out.2.2.1));clear hdr hk HP HF HC;go_wp2_with fail
   go_loopg [] kk.toNat (fun gk wr=>∃ (bx:Int→Nat) (own':Nat→Option Tag) (sk:St) (g:Fu),Cor wr own' (y.at_ bx) sk∧Hid (Nx w1 own wr own')∧Hid (I (K+gk) sk)∧Hid (sk.fu.a f=some g∧g.keep=kk∧g.mem=me)∧Hid (kk≤(g.pi.n:Int)+(gk:Int))∧Hid (z=sk.bootN f gk))
   case atStart=>exact ⟨y.bx,own',sk,g,hr,HNX,HI,HF',Lib.hid (by have:=HBG.out;omega),hz⟩
   case round =>
    clear hr HNX HI HF' hz;obtain ⟨bx,own',sk,g,hr,HNX,HI,HF,HK,HZ⟩:=hrel;have egk:=HF.out.1;obtain ⟨pn,hpn⟩:∃ pn:Int,(g.pi.n:Int)=pn:=⟨_,rfl⟩;have q10:wr.cell? ⟨y.fb f,10,none⟩=some (.map (some (y.fp f))):=hr.g10 egk;have q4:wr.cell? ⟨y.fb f,4,none⟩=some (.int .i64 g.keep):=hr.g4 egk;have q2:wr.cell? ⟨y.fb f,2,none⟩=some (.int .i64 g.mem):=hr.g2 egk;have ql:=fun ty=>(hr.gpn egk ty:(Builtin.len_ #[57] ty #[.map (some (y.fp f))]).run Tryz.prog wr=.ok (.int .i64 (g.pi.n:Int)) wr);have ql1:=fun j ty=>((hr.drewN j).gpn egk ty:(Builtin.len_ #[57] ty #[.map (some (y.fp f))]).run Tryz.prog (wr.drewN j)=.ok (.int .i64 (g.pi.n:Int)) (wr.drewN j));have ql2:=fun ty=>(hr.drew.gpn egk ty:(Builtin.len_ #[57] ty #[.map (some (y.fp f))]).run Tryz.prog wr.drew=.ok (.int .i64 (g.pi.n:Int)) wr.drew);rw [HF.out.2.1] at q4;rw [HF.out.2.2] at q2;rw [hpn] at ql;rw [hpn] at ql1;rw [hpn] at ql2;have HPN:=Lib.hid hpn;clear hpn
    by_cases hlt:pn<kk
    ·have d:decide (pn<kk)=true:=decide_eq_true hlt
     have HLT:=Lib.hid hlt;clear hlt;obtain ⟨g1,hg1⟩:∃ g1,gk=g1+1:=⟨gk-1,by have:=HK.out;have:=HLT.out;have:=HPN.out;omega⟩
     subst hg1;have KR:=Lib.hid (fun j=>(c_room (V.v _) (hr.drewN j) HI.out me:Calls Tryz.prog 70 #[ptr y.c,.int .i64 me] (wr.drewN j) _));go_wp2_with fail
     go_quiet (fail)
     go_wp2_with fail
     with_reducible refine (KR.out _).mono ?_
     rintro e w2 ⟨x,bb,rfl,hro,own2,h2,n2⟩;have NX2:Hid (Nx w1 own w2 own2):=Lib.hid (HNX.out.trans (Nx.trans ⟨(Only.refl _ _).drewN _,fun _ q=>Or.inl q⟩ n2));have HRO:=Lib.hid hro;clear hr KR n2 hro q10 q4 q2 ql ql1 ql2 d HNX egk;have hlt':((sk.G f).pi.n:Int)<(sk.G f).keep:=by rw [St.G_of HF.out.1,HF.out.2.1,HPN.out];exact HLT.out
     have hme':(sk.G f).mem=me:=by rw [St.G_of HF.out.1];exact HF.out.2.2
     obtain ⟨s1,hs1⟩:∃ s1,(sk.room me).1=s1:=⟨_,rfl⟩;have hrm:=V.rm _ _ me HI.out;rw [hs1] at h2 hrm
     cases bb with
     | false =>
      have hz:z=s1:=by
       rw [HZ.out];exact bootN_none hlt' (by rw [hme'];exact Prod.ext hs1 (by have:=HRO.out;simpa using this))
      have HZZ:=Lib.hid hz;clear hlt' hme' hs1 hrm hz;go_wp2_with fail
      (try simp only [Exit.inBlock,Exit.then]);refine bodyPost_ret (results_none rfl _ _ _) rfl ?_
      rw [HZZ.out];exact ⟨rfl,bx,own2,h2,N1.out.trans NX2.out⟩
     | true =>
      have hx:(sk.room me).2=some x:=by have:=HRO.out;simpa using this
      obtain ⟨hI1,hup,hfu⟩:=hrm;obtain ⟨hup1,hfr1⟩:=hup x hx;obtain ⟨g',eg',hm',hk',hn'⟩:=hfu f g HF.out.1;obtain ⟨p1,ep1⟩:=(V.v _).up _ _ hI1 hup1;obtain ⟨hun,hI2⟩:=V.bo (K+g1) s1 f g' x hI1 eg' hup1 (by rw [hm',HF.out.2.2];exact hfr1)
      have HZ2:Hid (z=((s1.boot f x).pin (s1.last+1)).bootN f g1):=Lib.hid (by rw [HZ.out];exact bootN_some hlt' (by rw [hme'];exact Prod.ext hs1 hx))
      have kb:Calls Tryz.prog 72 #[ptr y.c,ptr (y.fb f),.int .i64 x] w2 _:=c_boot h2 ((V.v _).bd _ hI1) eg' ep1 hun;have KB:=Lib.hid kb;have HI2:=Lib.hid hI2;have HG2:=Lib.hid (And.intro eg' (And.intro hm' (And.intro hk' hn')));clear hx hI1 hup hfu hup1 hfr1 eg' hm' hk' hn' ep1 hun hI2 kb hlt' hme' hs1 h2 HRO HI;go_wp2_with fail
      with_reducible refine KB.out.mono ?_
      rintro e w3 ⟨blk,rfl,own3,h3,n3⟩;have NX3:Hid (Nx w1 own w3 own3):=Lib.hid (NX2.out.trans n3);have hb2:(s1.boot f x).bx (s1.last+1)=some ⟨s1.last+1,f,x,(s1.G f).mem,.boot,false,s1.now⟩:=boot_bx;have ep2:(s1.boot f x).pl.a x=some _:=boot_pl;have eg2:(s1.boot f x).fu.a f=some _:=boot_fu HG2.out.1
      have kp:Calls Tryz.prog 149 #[ptr y.c,ptr blk] w3 (fun e w'=>e=.returned (.tuple #[])∧To w3 own3 ((y.at_ bx).withB (s1.last+1) blk) ((s1.boot f x).pin (s1.last+1)) w'):=by
       have:=c_pin h3 ((V.v _).bd _ HI2.out) hb2 ep2 eg2
       rw [withB_at] at this;exact this
      have KP2:=Lib.hid kp;have HP2:=Lib.hid (V.pn _ _ _ _ _ HI2.out eg2 (by show ((g'.lo.set (s1.last+1) ()).a (s1.last+1)).isSome=true;rw [Tb.set_at];rfl))
      have HF2:=Lib.hid (pin_fu eg2 hb2 rfl);clear h3 n3 hb2 ep2 eg2 kp KB;go_wp2_with fail
      with_reducible refine KP2.out.mono ?_
      rintro e w4 ⟨rfl,own4,h4,n4⟩;have NX4:Hid (Nx w1 own w4 own4):=Lib.hid (NX3.out.trans n4);clear n4 KP2;go_wp2_with fail
      go_roundg g1
      case measure=>omega
      case rel =>
       refine ⟨_,own4,_,_,h4,NX4,Lib.hid HP2.out.2,Lib.hid ⟨HF2.out,?_,?_⟩,Lib.hid ?_,HZ2⟩
       ·show g'.keep=kk;rw [HG2.out.2.2.1];exact HF.out.2.1
       ·show g'.mem=me;rw [HG2.out.2.1];exact HF.out.2.2
       ·show kk≤((g'.pi.set (s1.last+1) ()).n:Int)+(g1:Int)
        have h5:(g'.pi.a (s1.last+1)).isSome=false:=HP2.out.1;rw [Tb.set_n h5,HG2.out.2.2.2];have:=HK.out
        omega
    ·have d:decide (pn<kk)=false:=by simp;omega
     have HLT:=Lib.hid hlt;clear hlt;go_wp2_with fail
     go_quiet (fail)
     go_wp2_with fail
     go_end0
     have hz:z=sk:=by rw [HZ.out];exact bootN_stop (by rw [St.G_of HF.out.1,HF.out.2.1,HPN.out];have:=HLT.out;omega)
     rw [hz];exact ⟨rfl,bx,own',hr.drewN _,N1.out.trans (HNX.out.trans ⟨(Only.refl _ _).drewN _,fun _ q=>Or.inl q⟩)⟩
def St.one (s:St) (i t:Int):St:=let s1:=s.unpin i;if (s1.B i).q.idle then s1.idle i t else s1
theorem fewer_one (s:St) (f t i:Int) (l:List Int):s.fewer f t (i :: l)=(s.one i t).fewer f t l:=rfl
theorem fewer_app (f t:Int):∀ (l1 l2:List Int) (s:St),s.fewer f t (l1 ++ l2)=(s.fewer f t l1).fewer f t l2
 | [],_,_=>rfl
 | i :: l1,l2,s=>by
  rw [List.cons_append,fewer_one,fewer_one];exact fewer_app f t l1 l2 _
theorem drop_rev {α:Type} (l:List α) {j:Nat} (h:j<l.length):(l.drop j).reverse=(l.drop (j+1)).reverse ++ [l[j]]:=by
 rw [List.drop_eq_getElem_cons h,List.reverse_cons]
theorem fewer_step (s:St) (f t:Int) (l:List Int) {j:Nat} (h:j<l.length):s.fewer f t (l.drop j).reverse=(s.fewer f t (l.drop (j+1)).reverse).one l[j] t:=by
 rw [drop_rev l h,fewer_app];rfl
theorem one_fu {s:St} {f i t:Int} {g:Fu} {b:Bo} (eg:s.fu.a f=some g) (hb:s.bx i=some b) (hf:b.fn=f) (ht:s.now<t):(s.one i t).fu.a f=some { g with pi:=g.pi.del i,lo:=g.lo.set i () }∧(s.one i t).last=s.last∧(s.one i t).now=s.now:=by
 subst hf;have h1:s.B i=b:=St.B_of hb
 have hu:(s.unpin i).fu.a b.fn=some { g with pi:=g.pi.del i,lo:=g.lo.set i () }:=by
  show (s.fu.set (s.B i).fn _).a b.fn=_;rw [h1,Tb.set_at,St.G_of eg]
 unfold St.one;dsimp only
 split
 ·unfold St.idle
  rw [if_neg (show ¬ t≤(s.unpin i).now from by show ¬ t≤s.now;omega)]
  exact ⟨hu,rfl,rfl⟩
 ·exact ⟨hu,rfl,rfl⟩
structure Iv4 (I:Nat→St→Prop):Prop where
 v:Iv3 I
 un:∀ K s f g i t,I K s→s.fu.a f=some g→(g.pi.a i).isSome=true→s.now<t→t≤4398046511104→Bd (s.unpin i)∧I K (s.one i t)
 cnt:∀ K s f g,I K s→s.fu.a f=some g→g.pi.n=(ups g.pi s.last).length
theorem fewer_inv {I:Nat→St→Prop} (V:Iv4 I) {K:Nat} {s:St} {f t:Int} {g:Fu} (hI:I K s) (eg:s.fu.a f=some g) (ht:s.now<t) (ht2:t≤4398046511104) (l:List Int) (hl:∀ i ∈ l,(g.pi.a i).isSome=true) (hn:l.Nodup) :
  ∀ n j,j+n=l.length→∃ g',I K (s.fewer f t (l.drop j).reverse)∧(s.fewer f t (l.drop j).reverse).fu.a f=some g'∧(s.fewer f t (l.drop j).reverse).now=s.now∧∀ i (h:i<l.length),i<j→(g'.pi.a l[i]).isSome=true
 | 0,j,h=>by
  have e:l.drop j=[]:=List.drop_eq_nil_of_le (by omega)
  rw [e];exact ⟨g,hI,eg,rfl,fun i hi _=>hl _ (List.getElem_mem hi)⟩
 | n+1,j,h=>by
  obtain ⟨g',h1,h2,h3,h4⟩:=fewer_inv V hI eg ht ht2 l hl hn n (j+1) (by omega)
  have hj:j<l.length:=by omega
  have hp:=h4 j hj (by omega)
  obtain ⟨b,hb,_,hf⟩:=V.v.lo _ _ _ _ _ h1 h2 (Or.inl hp);obtain ⟨u1,u2,u3⟩:=one_fu (t:=t) h2 hb hf (by rw [h3];exact ht)
  rw [fewer_step s f t l hj];refine ⟨_,(V.un _ _ _ _ _ t h1 h2 hp (by rw [h3];exact ht) ht2).2,u1,by rw [u3];exact h3,fun i hi hij=>?_⟩
  have hne:l[i]≠l[j]:=fun e=>by
   have:=(List.getElem_inj hn).1 e
   omega
  show ((g'.pi.del l[j]).a l[i]).isSome=true;rw [Tb.del_other hne];exact h4 i hi (by omega)
end Go.Proofs.YthdengocipfgiaaGreat.W.C
