import Derived.Test.YthdengocipfgiaaGreatCbH
import Derived.Test.YthdengocipfgiaaGreatCcK
/- A part of what core's laws stand on. -/
set_option linter.unusedVariables false
set_option linter.unusedSimpArgs false
namespace Go.Proofs.YthdengocipfgiaaGreat.W.C
open Go.RowKit Go.Proofs.YthdengocipfgiaaGreat.W
inductive Pth (s0:St):St→Prop
 | refl:Pth s0 s0
 | one {s:St} {K:Nat} {i t:Int} {b:Bo} {g:Fu}:Pth s0 s→Inv K 0 s→s.bx i=some b→upQ b.q=true→b.p=true→s.fu.a b.fn=some g→g.keep<(g.pi.n:Int)→s.now<t→Pth s0 (s.one i t)
 | pin {s:St} {K:Nat} {i:Int} {b:Bo} {g:Fu}:Pth s0 s→Inv K 0 s→s.bx i=some b→upQ b.q=true→b.p=false→upB s.H b.ho=true→s.fu.a b.fn=some g→(g.pi.n:Int)<g.keep→Pth s0 (s.pin i)
 | evict {s:St} {K:Nat} {x i:Int} {p:Pl} {v:HR.V}:Pth s0 s→Inv K 0 s→s.pl.a x=some p→p.ca i=some v→upB s.H x=true→Pth s0 ((s.setP x (evictP p i v (s.B i).me)).kill i)
 | boot {s:St} {K:Nat} {f x:Int} {g:Fu}:Pth s0 s→Inv (K+1) 0 s→s.fu.a f=some g→upB s.H x=true→g.mem≤fr s.H x→Pth s0 (s.boot f x)
 | ah {s:St} {i t:Int}:Pth s0 s→Pth s0 { s with ah:=s.ah.set i t }
 | due {s:St} {K:Nat} {i t:Int}:Pth s0 s→Inv K 0 s→s.T (0,i)=some t→t≤s.now→Pth s0 ((s.delT (0,i)).kill i)
 | dueB {s:St} {f:Int}:Pth s0 s→Pth s0 (s.delT (1,f))
theorem Pth.trans {s0 s1 s2:St} (h:Pth s0 s1) (k:Pth s1 s2):Pth s0 s2:=by
 induction k with
 | refl=>exact h
 | one _ a1 a2 a3 a4 a5 a6 a7 ih=>exact .one ih a1 a2 a3 a4 a5 a6 a7
 | pin _ a1 a2 a3 a4 a5 a6 a7 ih=>exact .pin ih a1 a2 a3 a4 a5 a6 a7
 | evict _ a1 a2 a3 a4 ih=>exact .evict ih a1 a2 a3 a4
 | boot _ a1 a2 a3 a4 ih=>exact .boot ih a1 a2 a3 a4
 | ah _ ih=>exact .ah ih
 | due _ a1 a2 a3 ih=>exact .due ih a1 a2 a3
 | dueB _ ih=>exact .dueB ih
theorem Pth.clear {s0:St} {K:Nat} {x mem:Int}:∀ (n:Nat) {s:St} {p:Pl},Pth s0 s→Inv K 0 s→s.pl.a x=some p→p.cn=n→upB s.H x=true→Pth s0 (s.clear x mem n)
 | 0,s,p,P,h,ep,hn,hu=>P
 | n+1,s,p,P,h,ep,hn,hu=>by
  have hl:=h.least ep (by omega)
  have P1:=Pth.evict P h ep hl.1 hu;obtain ⟨s1,hs1,h1,hu1,⟨p1,ep1,hn1,hfr⟩,hS,hno,hla⟩:=h.ev1 ep hl.1 hu;unfold St.clear;simp only [St.P_of ep];rw [hs1] at P1 ⊢
  split
  ·exact P1
  ·exact Pth.clear n P1 h1 ep1 (by omega) hu1
theorem Pth.room {s0 s:St} {K:Nat} (P:Pth s0 s) (h:Inv K 0 s) (mem:Int):Pth s0 (s.room mem).1:=by
 unfold St.room
 split
 ·exact P
 ·cases q:(List.range 32).find? (fun j:Nat=>s.may (j:Int) mem) with
  | none=>exact P
  | some j =>
   have hm:=List.find?_some q;simp only [St.may,Bool.and_eq_true,decide_eq_true_eq] at hm;obtain ⟨z,u,hH⟩:=upB_some hm.1;obtain ⟨p,ep⟩:=Option.isSome_iff_exists.1 (h.ho _ _ _ _ hH).2.2.2.2.2.1;simp only [St.P_of ep];exact Pth.clear p.cn P h ep rfl hm.1
theorem upB_tk (H:Int→Option Ht) (x m y:Int):upB (tkH H x m) y=upB H y:=by
 unfold tkH
 split
 ·rename_i s u hz
  split
  ·unfold upB updZ
   by_cases e:y=x
   ·rw [if_pos e,e,hz]
   ·rw [if_neg e]
  ·rfl
 ·rfl
theorem upB_gv (H:Int→Option Ht) (x m y:Int):upB (gvH H x m) y=upB H y:=by
 unfold gvH
 split
 ·rename_i d s u hz
  split
  ·unfold upB updZ
   by_cases e:y=x
   ·rw [if_pos e,e,hz]
    unfold lv
    cases d
    ·simp
    ·dsimp only
     split
     ·rename_i q
      split at q
      ·cases q
      ·cases q;rfl
     ·rfl
   ·rw [if_neg e]
  ·rfl
 ·rfl
theorem pin_bx {s:St} {i j:Int} {b:Bo} (hb:s.bx i=some b) (hi:b.id=i) (hj:j≠i):(s.pin i).bx j=s.bx j:=by
 show updZ s.bx (s.B i).id _ j=_;rw [St.B_of hb,hi];exact updZ_ne _ _ hj
theorem Pth.pinL {s0:St} {K:Nat} {f:Int}:∀ (l:List Int) {s:St} {g:Fu},Pth s0 s→Inv K 0 s→s.fu.a f=some g→(g.pi.n:Int)≤g.keep→l.Nodup→(∀ i ∈ l,(g.lo.a i).isSome=true∧upB s.H (s.B i).ho=true)→Pth s0 (s.pinL f l).1
 | [],s,g,P,h,eg,hk,hn,hl=>P
 | i :: l,s,g,P,h,eg,hk,hn,hl=>by
  unfold St.pinL
  split
  ·exact P
  ·rename_i hne
   rw [St.G_of eg] at hne;obtain ⟨hlo,hup⟩:=hl i (by simp)
   obtain ⟨b,hb,hu,hf⟩:=h.lo f g i eg hlo;obtain ⟨g',eg',_,h1,h2⟩:=h.onF i b hb hu;rw [hf,eg] at eg';cases eg';rw [hlo] at h2
   have hp:b.p=false:=by cases q:b.p with
    | false=>rfl
    | true=>rw [q] at h2;cases h2
   rw [St.B_of hb] at hup;have P1:=Pth.pin P h hb hu hp hup (by rw [hf];exact eg) (by omega)
   obtain ⟨hn1,hn2⟩:=List.nodup_cons.1 hn;refine Pth.pinL l P1 (h.pin hb hu) (pin_fu eg hb hf) ?_ hn2 (fun j hj=>?_)
   ·show ((g.pi.set i ()).n:Int)≤g.keep
    rw [Tb.set_n (by rw [h1,hp])];omega
   ·have hji:j≠i:=fun e=>hn1 (e ▸ hj)
    obtain ⟨a1,a2⟩:=hl j (by simp [hj])
    refine ⟨?_,?_⟩
    ·show ((g.lo.del i).a j).isSome=true
     rw [Tb.del_other hji];exact a1
    ·have hB:(s.pin i).B j=s.B j:=by unfold St.B;rw [pin_bx hb (h.bx i b hb).1 hji]
     rw [hB];exact a2
theorem Pth.bootN {s0:St} {K:Nat} {f:Int}:∀ (n:Nat) {s:St},Pth s0 s→Inv (K+n) 0 s→(s.fu.a f).isSome=true→Pth s0 (s.bootN f n)
 | 0,s,P,h,_=>P
 | n+1,s,P,h,hf=>by
  obtain ⟨g,eg⟩:=Option.isSome_iff_exists.1 hf;unfold St.bootN
  split
  ·rename_i hlt
   rw [St.G_of eg] at hlt ⊢;obtain ⟨h1,h2,h3,_⟩:=h.room g.mem;have P1:=P.room h g.mem
   cases q:s.room g.mem with
   | mk s1 o =>
    rw [q] at h1 h2 h3 P1
    cases o with
    | none=>exact P1
    | some x =>
     obtain ⟨k1,k2⟩:=h2 x rfl;obtain ⟨g',eg',_,hm,hkp,hpn,_⟩:=h3 f g eg;have h4:Inv (K+n+1) 0 s1:=h1;have h5:=h4.boot eg' k1 (by rw [hm];exact k2)
     have P2:=Pth.boot P1 h4 eg' k1 (by rw [hm];exact k2)
     have hb:(s1.boot f x).bx (s1.last+1)=some ⟨s1.last+1,f,x,(s1.G f).mem,.boot,false,s1.now⟩:=updZ_same _ _ _
     have hH:upB (s1.boot f x).H x=true:=by
      show upB (tkH s1.H x (s1.G f).mem) x=true;rw [upB_tk];exact k1
     have P3:=Pth.pin (g:={ g' with lo:=g'.lo.set (s1.last+1) () }) P2 h5 hb rfl rfl hH (boot_fu eg') (by show (g'.pi.n:Int)<g'.keep;rw [hkp,hpn];exact hlt)
     exact Pth.bootN n P3 (h5.pin hb rfl) (pin_some (boot_some (by rw [eg'];rfl)))
  ·exact P
theorem Pth.more {s0 s:St} {K:Nat} (P:Pth s0 s) (h:Inv (K+1000) 0 s) {f:Int} {g:Fu} (eg:s.fu.a f=some g) (hk:(g.pi.n:Int)≤g.keep):Pth s0 (s.more f):=by
 unfold St.more
 have hl:∀ i ∈ s.pinnable f,(g.lo.a i).isSome=true∧upB s.H (s.B i).ho=true:=fun i hi=>by
  have:=mem_pinnable.1 hi
  rw [St.G_of eg] at this;exact this.2.2
 have hND:(s.pinnable f).Nodup:=(pinnable_pw s f).imp (fun {a b} q e=>by subst e;unfold lR at q;omega)
 have P1:=Pth.pinL _ P h eg hk hND hl
 obtain ⟨h1,h2⟩:=h.pinL (f:=f) (s.pinnable f) (fun i hi=>by
  obtain ⟨b,hb,hu,_⟩:=h.lo f g i eg (hl i hi).1;exact h.mx_of hb hu)
 dsimp only
 split
 ·exact P1
 ·have hs:=h2 f (by rw [eg];rfl)
  obtain ⟨g1,eg1⟩:=Option.isSome_iff_exists.1 hs;have:=h1.fu f g1 eg1
  rw [St.G_of eg1];exact Pth.bootN (K:=K) _ P1 (h1.mono (by omega) (Nat.le_refl _)) hs
theorem Pth.fewer {s0 s:St} {K:Nat} {f t:Int} {g:Fu} (P:Pth s0 s) (h:Inv K 0 s) (eg:s.fu.a f=some g) (ht:s.now<t) (ht2:t≤4398046511104) (l:List Int) (hl:∀ i ∈ l,(g.pi.a i).isSome=true) (hn:l.Nodup) (k0:Nat) (hk0:k0+l.length=g.pi.n) (hk:g.keep≤(k0:Int)) :
  ∀ n j,j+n=l.length→∃ g',Inv K 0 (s.fewer f t (l.drop j).reverse)∧Pth s0 (s.fewer f t (l.drop j).reverse)∧(s.fewer f t (l.drop j).reverse).fu.a f=some g'∧(s.fewer f t (l.drop j).reverse).now=s.now∧g'.pi.n=k0+j∧g'.keep=g.keep∧∀ i (h:i<l.length),i<j→(g'.pi.a l[i]).isSome=true
 | 0,j,q=>by
  have e:l.drop j=[]:=List.drop_eq_nil_of_le (by omega)
  rw [e];exact ⟨g,h,P,eg,rfl,by omega,rfl,fun i hi _=>hl _ (List.getElem_mem hi)⟩
 | n+1,j,q=>by
  obtain ⟨g',h1,P1,h2,h3,h5,h6,h4⟩:=Pth.fewer P h eg ht ht2 l hl hn k0 hk0 hk n (j+1) (by omega)
  have hj:j<l.length:=by omega
  have hp:=h4 j hj (by omega)
  obtain ⟨b,hb,hq,hf⟩:=h1.pi f g' _ h2 hp;obtain ⟨g2,eg2,_,e1,e2⟩:=h1.onF _ b hb hq;rw [hf,h2] at eg2;cases eg2;rw [hp] at e1;obtain ⟨u1,u2,u3⟩:=one_fu (t:=t) h2 hb hf (by rw [h3];exact ht)
  rw [fewer_step s f t l hj];refine ⟨_,h1.one hb hq e1.symm t,.one P1 h1 hb hq e1.symm (by rw [hf];exact h2) (by rw [h5,h6];omega) (by rw [h3];exact ht),u1,by rw [u3];exact h3,?_,h6,fun i hi hij=>?_⟩
  ·show (g'.pi.del l[j]).n=_
   unfold Tb.del;rw [hp,h5];show k0+(j+1)-1=k0+j;omega
  ·have hne:l[i]≠l[j]:=fun e=>by
    have:=(List.getElem_inj hn).1 e
    omega
   show ((g'.pi.del l[j]).a l[i]).isSome=true;rw [Tb.del_other hne];exact h4 i hi (by omega)
theorem Pth.keep {s0 s:St} {K:Nat} (P:Pth s0 s) (h:Inv (K+1000) 0 s) {f:Int} {g:Fu} (eg:s.fu.a f=some g):Pth s0 (s.keep f):=by
 unfold St.keep
 split
 ·rename_i hlt
  rw [St.G_of eg] at hlt ⊢;have:=win_ok g
  have:=h.now
  have hf:=h.fu f g eg;have hc:=h.cnt eg;obtain ⟨_,_,P1,_⟩:=Pth.fewer P h eg (t:=s.now+g.win.2.2) (by omega) (by omega) _ (fun i hi=>drop_mem hi) (drop_nodup g.pi s.last g.keep.toNat) g.keep.toNat (by rw [List.length_drop,hc];omega) (by omega) _ 0 (Nat.zero_add _)
  exact P1
 ·rename_i h1
  split
  ·rename_i h2
   rw [St.G_of eg] at h2;exact P.more h eg (by omega)
  ·exact P
theorem Pth.keepAll {s0:St} {K:Nat}:∀ (n:Nat) {s:St},Pth s0 s→Inv (K+1000*n) 0 s→Pth s0 (s.keepAll n)
 | 0,s,P,h=>P
 | n+1,s,P,h=>by
  have e:K+1000*(n+1)=K+1000+1000*n:=by omega
  rw [e] at h;have h1:Inv (K+1000) 0 (s.keepAll n):=Inv.keepAll n h;have P1:=Pth.keepAll n P h;unfold St.keepAll;dsimp only
  split
  ·rename_i q
   obtain ⟨g,eg⟩:=Option.isSome_iff_exists.1 q;exact P1.keep h1 eg
  ·exact P1
theorem Pth.ahead {s0 s:St} {K:Nat} (P:Pth s0 s) (h:Inv (K+1) 0 s) {f:Int} {g:Fu} (eg:s.fu.a f=some g):Pth s0 (s.ahead f):=by
 unfold St.ahead
 split
 ·exact P
 ·split
  ·rename_i hf
   rw [St.G_of eg] at hf ⊢
   have hfit:upB s.H ((fit s.H g.mem).1:Int)=true∧g.mem≤fr s.H ((fit s.H g.mem).1:Int):=by
    unfold fit at hf ⊢
    split at hf
    ·cases hf
    ·rw [if_neg (by assumption)]
     have:=(fitT_some s.H g.mem 32 hf).2.1
     unfold fits at this
     simpa using this
   exact .ah (.boot P h eg hfit.1 hfit.2)
  ·exact P
theorem Pth.dues {s0:St} {K:Nat}:∀ (n:Nat) {s:St},Pth s0 s→Inv (K+btN s.T) 0 s→Pth s0 (s.dues n)
 | 0,s,P,h=>P
 | n+1,s,P,h=>by
  unfold St.dues
  cases q:s.next with
  | none=>exact P
  | some k =>
   obtain ⟨t,⟨ht,_⟩,htn⟩:=next_due q;dsimp only;have h1:=h.delT k;have key:∀ j,(s.delT k).T j=if j=k then none else s.T j:=fun j=>updT_at _ _ _ _
   split
   ·rename_i hk
    obtain ⟨k1,k2⟩:=k;have hk:k1=0:=hk;subst hk;obtain ⟨b,hb,hw,_⟩:=h.T0 k2 t ht;refine Pth.dues (K:=K) n (.due P h ht htn) ?_;have h2:=h1.kill (b:=b) hb (warm_up hw);rw [btN_ext (T:=s.T) (fun f=>by rw [kill_T1,key,if_neg k10])]
    exact h2
   ·rename_i hk
    obtain ⟨q1,q2⟩:=h.T1 k t ht hk;rw [if_pos q1];obtain ⟨g,eg⟩:=Option.isSome_iff_exists.1 q2;have hf:=h.fu _ _ eg;obtain ⟨k1,k2⟩:=k;have q1:k1=1:=q1;subst q1;have hbt:=btN_out (T:=s.T) (T':=(s.delT (1,k2)).T) (f:=k2) ⟨hf.1,hf.2.1⟩ (by rw [ht];rfl) (by rw [key,if_pos rfl];rfl) (fun j hj=>by rw [key,if_neg (fun e=>hj (by cases e;rfl))])
    rw [←hbt,←Nat.add_assoc] at h1;refine Pth.dues (K:=K) n (Pth.ahead (g:=g) (.dueB P) h1 eg) ?_;rw [ahead_T];exact Inv.ahead (f:=k2) (g:=g) h1 eg
theorem leave_all (s:St) (x:Int):(s.leave x).bx=s.bx∧(s.leave x).T=s.T∧(s.leave x).H=s.H∧(s.leave x).fu=s.fu∧(s.leave x).now=s.now∧(s.leave x).last=s.last∧(s.leave x).out=s.out∧(s.leave x).F=s.F:=by
 unfold St.leave
 split <;> exact ⟨rfl,rfl,rfl,rfl,rfl,rfl,rfl,rfl⟩
structure Gn (i:Int) (s s':St):Prop where
 bx:∀ j,j≠i→s'.bx j=s.bx j
 it:∃ c,s'.bx i=some c∧c.q=.dead∧c.p=false
 T:∀ k,s'.T k=if k=(0,i) then none else s.T k
 H:∀ x,upB s'.H x=upB s.H x
 fu:∀ f g',s'.fu.a f=some g'→∃ g,s.fu.a f=some g∧g'.keep=g.keep∧g'.pi.n≤g.pi.n
 now:s'.now=s.now
 last:s'.last=s.last
theorem del_le {α:Type} (m:Tb α) (i:Int):(m.del i).n≤m.n:=by
 unfold Tb.del;dsimp only;split <;> omega
theorem gone_gn {s:St} {i:Int} {b:Bo} {g:Fu} (hb:s.bx i=some b) (hi:b.id=i) (hu:upQ b.q=true) (eg:s.fu.a b.fn=some g):Gn i s (s.gone i)∧(s.gone i).out=s.out:=by
 unfold St.gone;rw [St.B_of hb];dsimp only;obtain ⟨s2,hs2⟩:∃ s2,(if b.q.runs=true then (s.hold i).endC b.fn else s.hold i)=s2:=⟨_,rfl⟩
 have q:s2.bx=s.bx∧s2.T=HT.updZ s.T (0,i) none∧s2.H=s.H∧s2.now=s.now∧s2.last=s.last∧s2.out=s.out∧(∃ g2,s2.fu.a b.fn=some g2∧g2.keep=g.keep∧g2.pi=g.pi)∧∀ f,f≠b.fn→s2.fu.a f=s.fu.a f:=by
  rw [←hs2]
  split
  ·exact ⟨rfl,rfl,rfl,rfl,rfl,rfl,⟨{ s.G b.fn with ended:=s.now },Tb.set_at _ _ _,by rw [St.G_of eg],by rw [St.G_of eg]⟩,fun f e=>Tb.set_ne _ _ e⟩
  ·exact ⟨rfl,rfl,rfl,rfl,rfl,rfl,⟨g,eg,rfl,rfl⟩,fun f e=>rfl⟩
 rw [hs2];obtain ⟨q1,q2,q3,q4,q5,q6,⟨g2,q7,q8,q9⟩,q10⟩:=q;have hb2:s2.bx i=some b:=by rw [q1];exact hb
 obtain ⟨l1,l2,l3,l4,l5,l6,l7,_⟩:=leave_all ((s2.outOf i).die i) b.ho;have hB:(s2.outOf i).B i=b:=St.B_of hb2
 have e1:((s2.outOf i).die i).bx=updZ s2.bx i (some { b with q:=.dead,p:=false,t:=s2.now }):=by
  show updZ s2.bx (nx 3 ((s2.outOf i).B i) s2.now).1.id (some (nx 3 ((s2.outOf i).B i) s2.now).1)=_;rw [hB,nx3 hu,hi]
 have e2:((s2.outOf i).die i).H=gvH s2.H b.ho b.me:=by
  show gvH s2.H ((s2.outOf i).B i).ho ((s2.outOf i).B i).me=_;rw [hB]
 have e3:((s2.outOf i).die i).fu=s2.fu.set b.fn { s2.G b.fn with pi:=(s2.G b.fn).pi.del i,lo:=(s2.G b.fn).lo.del i }:=by
  show (s2.outOf i).fu=_;simp only [St.outOf,St.B_of hb2]
 refine ⟨⟨fun j hj=>?_,⟨{ b with q:=.dead,p:=false,t:=s2.now },?_,rfl,rfl⟩,fun k=>?_,fun x=>?_,fun f g' hg=>?_,?_,?_⟩,?_⟩
 ·rw [l1,e1,updZ_ne _ _ hj,q1]
 ·rw [l1,e1,updZ_same]
 ·rw [l2];show s2.T k=_;rw [q2];rfl
 ·rw [l3,e2,upB_gv,q3]
 ·rw [l4,e3] at hg
  by_cases e:f=b.fn
  ·rw [e,Tb.set_at] at hg
   cases hg
   refine ⟨g,by rw [e];exact eg,?_,?_⟩
   ·show (s2.G b.fn).keep=_;rw [St.G_of q7,q8]
   ·show ((s2.G b.fn).pi.del i).n≤_
    rw [St.G_of q7,←q9];exact del_le _ _
  ·rw [Tb.set_ne _ _ e,q10 f e] at hg
   exact ⟨g',hg,rfl,Nat.le_refl _⟩
 ·rw [l5];exact q4
 ·rw [l6];exact q5
 ·rw [l7];exact q6
theorem kill_gn {s:St} {i:Int} {b:Bo} {g:Fu} (hb:s.bx i=some b) (hi:b.id=i) (hu:upQ b.q=true) (eg:s.fu.a b.fn=some g):Gn i s (s.kill i)∧(s.kill i).out=s.out ++ [(false,i,b.fn,b.ho)]:=by
 obtain ⟨h,ho⟩:=gone_gn hb hi hu eg;refine ⟨⟨h.bx,h.it,h.T,h.H,h.fu,h.now,h.last⟩,?_⟩;show (s.gone i).out ++ [(false,(s.B i).id,(s.B i).fn,(s.B i).ho)]=_;rw [ho,St.B_of hb,hi]
theorem Inv.kg {K e:Nat} {s:St} (h:Inv K e s) {i:Int} {b:Bo} (hb:s.bx i=some b) (hu:upQ b.q=true):Gn i s (s.kill i)∧(s.kill i).out=s.out ++ [(false,i,b.fn,b.ho)]:=by
 obtain ⟨g,eg,_⟩:=h.onF i b hb hu;exact kill_gn hb (h.bx i b hb).1 hu eg
theorem Inv.gg {K e:Nat} {s:St} (h:Inv K e s) {i:Int} {b:Bo} (hb:s.bx i=some b) (hu:upQ b.q=true):Gn i s (s.gone i)∧(s.gone i).out=s.out:=by
 obtain ⟨g,eg,_⟩:=h.onF i b hb hu;exact gone_gn hb (h.bx i b hb).1 hu eg
def Tw (s:St):Prop:=∀ i b,s.bx i=some b→b.q=.warm→b.p=false→(s.T (0,i)).isSome=true
def No (f:Int) (s:St):Prop:=∀ g,s.fu.a f=some g→(g.pi.n:Int)≤g.keep
def Pu (s:St):Prop:=∀ i b,s.bx i=some b→upQ b.q=true→b.p=true→upB s.H b.ho=true
theorem k0 {i j:Int} (h:j≠i):((0,j):HT.K)≠(0,i):=fun e=>h (by have:=congrArg Prod.snd e;simpa using this)
theorem Gn.tw {i:Int} {s s':St} (h:Gn i s s') (k:∀ j b,j≠i→s.bx j=some b→b.q=.warm→b.p=false→(s.T (0,j)).isSome=true):Tw s':=fun j b hb hq hp=>by
 by_cases e:j=i
 ·obtain ⟨c,hc,hd,_⟩:=h.it
  rw [e,hc] at hb;cases hb;rw [hd] at hq;cases hq
 ·rw [h.bx j e] at hb
  rw [h.T,if_neg (k0 e)];exact k j b e hb hq hp
theorem Gn.no {i f:Int} {s s':St} (h:Gn i s s') (k:No f s):No f s':=fun g' hg=>by
 obtain ⟨g,h1,h2,h3⟩:=h.fu f g' hg;have:=k g h1
 rw [h2];omega
theorem Gn.pu {i:Int} {s s':St} (h:Gn i s s') (k:∀ j b,j≠i→s.bx j=some b→upQ b.q=true→b.p=true→upB s.H b.ho=true):Pu s':=fun j b hb hu hp=>by
 rw [h.H]
 by_cases e:j=i
 ·obtain ⟨c,hc,_,hd⟩:=h.it
  rw [e,hc] at hb;cases hb;rw [hd] at hp;cases hp
 ·rw [h.bx j e] at hb
  exact k j b e hb hu hp
theorem one_all {s:St} {i t:Int} {b:Bo} (hb:s.bx i=some b) (hi:b.id=i) (ht:s.now<t):(∀ j,j≠i→(s.one i t).bx j=s.bx j)∧(s.one i t).bx i=some { b with p:=false }∧(∀ k,k≠(0,i)→(s.one i t).T k=s.T k)∧(b.q=.warm→((s.one i t).T (0,i)).isSome=true)∧(s.one i t).H=s.H∧(s.one i t).out=s.out∧(s.one i t).last=s.last∧(∀ f,f≠b.fn→(s.one i t).fu.a f=s.fu.a f):=by
 have h1:=unpin_B hb hi
 have h2:∀ j,j≠i→(s.unpin i).bx j=s.bx j:=fun j hj=>by
  show updZ s.bx (s.B i).id _ j=_;rw [St.B_of hb,hi];exact updZ_ne _ _ hj
 have h3:∀ f,f≠b.fn→(s.unpin i).fu.a f=s.fu.a f:=fun f hf=>by
  show (s.fu.set (s.B i).fn _).a f=_;rw [St.B_of hb];exact Tb.set_ne _ _ hf
 unfold St.one;dsimp only
 split
 ·unfold St.idle
  rw [if_neg (show ¬ t≤(s.unpin i).now from by show ¬ t≤s.now;omega)]
  exact ⟨h2,h1,fun k hk=>HT.updZ_ne _ _ hk,fun _=>by show (HT.updZ s.T (0,i) (some t) (0,i)).isSome=true;rw [HT.updZ_same];rfl,rfl,rfl,rfl,h3⟩
 ·rename_i hn
  refine ⟨h2,h1,fun k hk=>rfl,fun hq=>?_,rfl,rfl,rfl,h3⟩;rw [St.B_of h1] at hn;exact absurd (show (Bo.q { b with p:=false }).idle=true by show b.q.idle=true;rw [hq];rfl) hn
theorem pin_at {s:St} {i:Int} {b:Bo} (hb:s.bx i=some b) (hi:b.id=i):(s.pin i).bx i=some { b with p:=true }:=by
 subst hi;show updZ s.bx (s.B b.id).id (some { s.B b.id with p:=true }) b.id=_
 rw [St.B_of hb];exact updZ_same _ _ _
theorem pin_T {s:St} {i:Int} (k:HT.K) (hk:k≠(0,i)):(s.pin i).T k=s.T k:=HT.updZ_ne _ _ hk
theorem pin_other {s:St} {i f:Int} {b:Bo} (hb:s.bx i=some b) (hf:f≠b.fn):(s.pin i).fu.a f=s.fu.a f:=by
 show (s.fu.set (s.B i).fn _).a f=_;rw [St.B_of hb];exact Tb.set_ne _ _ hf
theorem boot_other {s:St} {f x j:Int} (hj:j≠s.last+1):(s.boot f x).bx j=s.bx j:=updZ_ne _ _ hj
theorem boot_fo {s:St} {f x j:Int} (hj:j≠f):(s.boot f x).fu.a j=s.fu.a j:=Tb.set_ne _ _ hj
theorem boot_up {s:St} {f x y:Int}:upB (s.boot f x).H y=upB s.H y:=upB_tk _ _ _ _
theorem Pth.tw {s0 s:St} (P:Pth s0 s) (h:Tw s0):Tw s:=by
 induction P with
 | refl=>exact h
 | one _ hI hb hu hp eg hk ht ih =>
  rename_i s K i t b g _;obtain ⟨h1,h2,h3,h4,_⟩:=one_all (t:=t) hb (hI.bx i b hb).1 ht;intro j c hc hq hcp
  by_cases e:j=i
  ·rw [e] at hc ⊢
   rw [h2] at hc;cases hc;exact h4 hq
  ·rw [h1 j e] at hc
   rw [h3 _ (k0 e)];exact ih j c hc hq hcp
 | pin _ hI hb hu hp hh eg hk ih =>
  rename_i s K i b g _;intro j c hc hq hcp
  by_cases e:j=i
  ·rw [e,pin_at hb (hI.bx i b hb).1] at hc;cases hc
   cases hcp
  ·rw [pin_bx hb (hI.bx i b hb).1 e] at hc
   rw [pin_T _ (k0 e)];exact ih j c hc hq hcp
 | evict _ hI ep hv hu ih =>
  rename_i s K x i p v _;obtain ⟨_,_,b,hb,hq,_⟩:=hI.ca _ _ i v ep hv;obtain ⟨g,eg,_⟩:=hI.onF i b hb (warm_up hq);exact (kill_gn (s:=s.setP x (evictP p i v (s.B i).me)) hb (hI.bx i b hb).1 (warm_up hq) eg).1.tw (fun j c _=>ih j c)
 | boot _ hI eg hu hm ih =>
  rename_i s K f x g _;intro j c hc hq hcp
  by_cases e:j=s.last+1
  ·rw [e,boot_bx] at hc;cases hc;cases hq
  ·rw [boot_other e] at hc
   exact ih j c hc hq hcp
 | ah _ ih=>exact ih
 | due _ hI hT ht ih =>
  rename_i s K i t _;obtain ⟨b,hb,hq,_⟩:=hI.T0 i t hT;obtain ⟨g,eg,_⟩:=hI.onF i b hb (warm_up hq)
  exact (kill_gn (s:=s.delT (0,i)) hb (hI.bx i b hb).1 (warm_up hq) eg).1.tw (fun j c hj hc hw hp=>by
   show (HT.updZ s.T (0,i) none (0,j)).isSome=true;rw [HT.updZ_ne _ _ (k0 hj)];exact ih j c hc hw hp)
 | dueB _ ih =>
  rename_i s f _;intro j c hc hw hp;show (HT.updZ s.T (1,f) none (0,j)).isSome=true;rw [HT.updZ_ne _ _ (fun e=>k10 e.symm)];exact ih j c hc hw hp
theorem Pth.no {s0 s:St} {f:Int} (P:Pth s0 s) (h:No f s0):No f s:=by
 induction P with
 | refl=>exact h
 | one _ hI hb hu hp eg hk ht ih =>
  rename_i s K i t b g _;intro g' hg
  by_cases e:f=b.fn
  ·obtain ⟨a1,_⟩:=one_fu (t:=t) eg hb rfl ht
   rw [e,a1] at hg;cases hg;have h1:=ih g (by rw [e];exact eg)
   have h2:=del_le g.pi i;show ((g.pi.del i).n:Int)≤g.keep;omega
  ·obtain ⟨_,_,_,_,_,_,_,a8⟩:=one_all (t:=t) hb (hI.bx i b hb).1 ht
   rw [a8 f e] at hg;exact ih g' hg
 | pin _ hI hb hu hp hh eg hk ih =>
  rename_i s K i b g _;intro g' hg
  by_cases e:f=b.fn
  ·rw [e,pin_fu eg hb rfl] at hg;cases hg
   show ((g.pi.set i ()).n:Int)≤g.keep;unfold Tb.set;dsimp only
   split <;> omega
  ·rw [pin_other hb e] at hg
   exact ih g' hg
 | evict _ hI ep hv hu ih =>
  rename_i s K x i p v _;obtain ⟨_,_,b,hb,hq,_⟩:=hI.ca _ _ i v ep hv;obtain ⟨g,eg,_⟩:=hI.onF i b hb (warm_up hq);exact (kill_gn (s:=s.setP x (evictP p i v (s.B i).me)) hb (hI.bx i b hb).1 (warm_up hq) eg).1.no ih
 | boot _ hI eg hu hm ih =>
  rename_i s K f' x g _;intro g' hg
  by_cases e:f=f'
  ·rw [e,boot_fu eg] at hg;cases hg
   exact ih g (by rw [e];exact eg)
  ·rw [boot_fo e] at hg
   exact ih g' hg
 | ah _ ih=>exact ih
 | due _ hI hT ht ih =>
  rename_i s K i t _;obtain ⟨b,hb,hq,_⟩:=hI.T0 i t hT;obtain ⟨g,eg,_⟩:=hI.onF i b hb (warm_up hq);exact (kill_gn (s:=s.delT (0,i)) hb (hI.bx i b hb).1 (warm_up hq) eg).1.no ih
 | dueB _ ih=>exact ih
theorem Pth.pu {s0 s:St} (P:Pth s0 s) (h:Pu s0):Pu s:=by
 induction P with
 | refl=>exact h
 | one _ hI hb hu hp eg hk ht ih =>
  rename_i s K i t b g _;obtain ⟨h1,h2,_,_,h5,_⟩:=one_all (t:=t) hb (hI.bx i b hb).1 ht;intro j c hc hcu hcp;rw [h5]
  by_cases e:j=i
  ·rw [e,h2] at hc;cases hc;cases hcp
  ·rw [h1 j e] at hc
   exact ih j c hc hcu hcp
 | pin _ hI hb hu hp hh eg hk ih =>
  rename_i s K i b g _;intro j c hc hcu hcp;show upB s.H c.ho=true
  by_cases e:j=i
  ·rw [e,pin_at hb (hI.bx i b hb).1] at hc;cases hc
   exact hh
  ·rw [pin_bx hb (hI.bx i b hb).1 e] at hc
   exact ih j c hc hcu hcp
 | evict _ hI ep hv hu ih =>
  rename_i s K x i p v _;obtain ⟨_,_,b,hb,hq,_⟩:=hI.ca _ _ i v ep hv;obtain ⟨g,eg,_⟩:=hI.onF i b hb (warm_up hq);exact (kill_gn (s:=s.setP x (evictP p i v (s.B i).me)) hb (hI.bx i b hb).1 (warm_up hq) eg).1.pu (fun j c _=>ih j c)
 | boot _ hI eg hu hm ih =>
  rename_i s K f x g _;intro j c hc hcu hcp;rw [boot_up]
  by_cases e:j=s.last+1
  ·rw [e,boot_bx] at hc;cases hc;cases hcp
  ·rw [boot_other e] at hc
   exact ih j c hc hcu hcp
 | ah _ ih=>exact ih
 | due _ hI hT ht ih =>
  rename_i s K i t _;obtain ⟨b,hb,hq,_⟩:=hI.T0 i t hT;obtain ⟨g,eg,_⟩:=hI.onF i b hb (warm_up hq);exact (kill_gn (s:=s.delT (0,i)) hb (hI.bx i b hb).1 (warm_up hq) eg).1.pu (fun j c _=>ih j c)
 | dueB _ ih=>exact ih
structure Kr (c:Bool) (s0 s:St):Prop where
 out:∃ l:List Cmd,s.out=s0.out ++ l∧∀ k ∈ l,k.1=false→∀ b0,s0.bx k.2.1=some b0→upQ b0.q=true→b0.q≠.busy∧(c=true→b0.p=false)
 bx:∀ i b0,s0.bx i=some b0→upQ b0.q=true→∃ b,s.bx i=some b∧(upQ b.q=true→b.q=b0.q∧(c=true→b.p=false→b0.p=false))
 la:s0.last≤s.last
theorem Kr.refl (c:Bool) (s:St):Kr c s s:=⟨⟨[],by simp,fun k hk=>by cases hk⟩,fun _ b hb _=>⟨b,hb,fun _=>⟨rfl,fun _ q=>q⟩⟩,Int.le_refl _⟩
theorem Kr.kill {c:Bool} {s0 s s':St} {i:Int} {b:Bo} (h:Kr c s0 s) (g:Gn i s s') (ho:s'.out=s.out ++ [(false,i,b.fn,b.ho)]) (hb:s.bx i=some b) (hu:upQ b.q=true) (hq:b.q≠.busy) (hp:c=true→b.p=false):Kr c s0 s':=by
 obtain ⟨l,h1,h2⟩:=h.out;refine ⟨⟨l ++ [(false,i,b.fn,b.ho)],by rw [ho,h1,List.append_assoc],fun k hk hf b0 hb0 hu0=>?_⟩,fun j b0 hb0 hu0=>?_,by rw [g.last];exact h.la⟩
 ·rcases List.mem_append.1 hk with hk | hk
  ·exact h2 k hk hf b0 hb0 hu0
  ·rw [List.mem_singleton] at hk;subst hk
   obtain ⟨b',hb',r⟩:=h.bx i b0 hb0 hu0;rw [hb] at hb';cases hb';obtain ⟨r1,r2⟩:=r hu;exact ⟨by rw [←r1];exact hq,fun hc=>r2 hc (hp hc)⟩
 ·by_cases e:j=i
  ·obtain ⟨d,hd,hdq,_⟩:=g.it
   exact ⟨d,by rw [e];exact hd,fun q=>by rw [hdq] at q;cases q⟩
  ·rw [g.bx j e];exact h.bx j b0 hb0 hu0
theorem Kr.gone {c:Bool} {s0 s s':St} {i:Int} (h:Kr c s0 s) (g:Gn i s s') (ho:s'.out=s.out):Kr c s0 s':=by
 refine ⟨by rw [ho];exact h.out,fun j b0 hb0 hu0=>?_,by rw [g.last];exact h.la⟩
 by_cases e:j=i
 ·obtain ⟨d,hd,hdq,_⟩:=g.it
  exact ⟨d,by rw [e];exact hd,fun q=>by rw [hdq] at q;cases q⟩
 ·rw [g.bx j e];exact h.bx j b0 hb0 hu0
theorem Pth.kr {c:Bool} {s0 s1 s:St} (P:Pth s1 s) (h0:Kr c s0 s1) (hl:∀ i b,s0.bx i=some b→i≤s0.last) (hN:c=true→∀ f,No f s1):Kr c s0 s:=by
 induction P with
 | refl=>exact h0
 | one P hI hb hu hp eg hk ht ih =>
  rename_i s K i t b g;obtain ⟨h1,h2,_,_,_,h6,h7,_⟩:=one_all (t:=t) hb (hI.bx i b hb).1 ht;refine ⟨by rw [h6];exact ih.out,fun j b0 hb0 hu0=>?_,by rw [h7];exact ih.la⟩
  obtain ⟨b',hb',r⟩:=ih.bx j b0 hb0 hu0
  by_cases e:j=i
  ·rw [e,hb] at hb';cases hb'
   refine ⟨{ b with p:=false },by rw [e];exact h2,fun _=>⟨(r hu).1,fun hc=>?_⟩⟩
   have:=P.no (hN hc b.fn) g eg
   omega
  ·exact ⟨b',by rw [h1 j e];exact hb',r⟩
 | pin _ hI hb hu hp hh eg hk ih =>
  rename_i s K i b g _;refine ⟨ih.out,fun j b0 hb0 hu0=>?_,ih.la⟩;obtain ⟨b',hb',r⟩:=ih.bx j b0 hb0 hu0
  by_cases e:j=i
  ·rw [e,hb] at hb';cases hb'
   exact ⟨{ b with p:=true },by rw [e];exact pin_at hb (hI.bx i b hb).1,fun _=>⟨(r hu).1,fun _ q=>by cases q⟩⟩
  ·exact ⟨b',by rw [pin_bx hb (hI.bx i b hb).1 e];exact hb',r⟩
 | evict _ hI ep hv hu ih =>
  rename_i s K x i p v _;obtain ⟨_,_,b,hb,hq,hp,_⟩:=hI.ca _ _ i v ep hv;obtain ⟨g,eg,_⟩:=hI.onF i b hb (warm_up hq);obtain ⟨k1,k2⟩:=kill_gn (s:=s.setP x (evictP p i v (s.B i).me)) hb (hI.bx i b hb).1 (warm_up hq) eg;exact Kr.kill (s:=s.setP x (evictP p i v (s.B i).me)) ⟨ih.out,ih.bx,ih.la⟩ k1 k2 hb (warm_up hq) (by rw [hq];exact fun q=>nomatch q) (fun _=>hp)
 | boot _ hI eg hu hm ih =>
  rename_i s K f x g _;obtain ⟨l,h1,h2⟩:=ih.out;refine ⟨⟨l ++ [(true,s.last+1,f,x)],?_,fun k hk hf=>?_⟩,fun j b0 hb0 hu0=>?_,?_⟩
  ·show s.out ++ [(true,s.last+1,f,x)]=_
   rw [h1,List.append_assoc]
  ·rcases List.mem_append.1 hk with hk | hk
   ·exact h2 k hk hf
   ·rw [List.mem_singleton] at hk;subst hk;cases hf
  ·have:=hl j b0 hb0
   have:=ih.la
   rw [boot_other (by omega)]
   exact ih.bx j b0 hb0 hu0
  ·have:=ih.la
   show s0.last≤s.last+1;omega
 | ah _ ih=>exact ⟨ih.out,ih.bx,ih.la⟩
 | due _ hI hT ht ih =>
  rename_i s K i t _;obtain ⟨b,hb,hq,hp⟩:=hI.T0 i t hT;obtain ⟨g,eg,_⟩:=hI.onF i b hb (warm_up hq);obtain ⟨k1,k2⟩:=kill_gn (s:=s.delT (0,i)) hb (hI.bx i b hb).1 (warm_up hq) eg;exact Kr.kill (s:=s.delT (0,i)) ⟨ih.out,ih.bx,ih.la⟩ k1 k2 hb (warm_up hq) (by rw [hq];exact fun q=>nomatch q) (fun _=>hp)
 | dueB _ ih=>exact ⟨ih.out,ih.bx,ih.la⟩
structure Pv (s:St):Prop where
 tw:Tw s
 no:∀ f,No f s
 pu:Pu s
def Kl (k:Int) (s s':St):Prop:=∃ l:List Cmd,s'.out=s.out ++ l∧∀ c ∈ l,c.1=false→∀ b,s.bx c.2.1=some b→upQ b.q=true→(b.p=true→k=4∨k=2)∧(b.q=.busy→k=9)
theorem Kl.same {k:Int} {s s':St} (h:s'.out=s.out):Kl k s s':=⟨[],by simp [h],fun c hc=>by cases hc⟩
theorem Kl.of {k:Int} {s s1 s':St} (h:Kl k s1 s') (e1:s1.bx=s.bx) (e2:s1.out=s.out):Kl k s s':=by
 obtain ⟨l,h1,h2⟩:=h;exact ⟨l,by rw [h1,e2],fun c hc hf b hb=>h2 c hc hf b (by rw [e1];exact hb)⟩
theorem Kl.then {k:Int} {s s1 s':St} (h:Kl k s s1) (e:s'.out=s1.out):Kl k s s':=by
 obtain ⟨l,h1,h2⟩:=h;exact ⟨l,by rw [e,h1],h2⟩
theorem Kl.one {k:Int} {s s':St} {i f x:Int} {b:Bo} (hb:s.bx i=some b) (e:s'.out=s.out ++ [(false,i,f,x)]) (h1:b.p=true→k=4∨k=2) (h2:b.q=.busy→k=9):Kl k s s' :=
 ⟨_,e,fun c hc _ b' hb' _=>by
  rw [List.mem_singleton] at hc;subst hc;rw [hb] at hb';cases hb';exact ⟨h1,h2⟩⟩
theorem Kr.kl {c:Bool} {k:Int} {s0 s:St} (h:Kr c s0 s) (hc:c=false→k=4∨k=2):Kl k s0 s:=by
 obtain ⟨l,h1,h2⟩:=h.out;refine ⟨l,h1,fun x hx hf b hb hu=>?_⟩;obtain ⟨q1,q2⟩:=h2 x hx hf b hb hu;refine ⟨fun hp=>?_,fun q=>absurd q q1⟩
 cases c with
 | false=>exact hc rfl
 | true=>rw [q2 rfl] at hp;cases hp
theorem unpin_bx {s:St} {i j:Int} {b:Bo} (hb:s.bx i=some b) (hi:b.id=i) (hj:j≠i):(s.unpin i).bx j=s.bx j:=by
 show updZ s.bx (s.B i).id _ j=_;rw [St.B_of hb,hi];exact updZ_ne _ _ hj
theorem Kr.leave {c:Bool} {s0 s:St} (h:Kr c s0 s) (x:Int):Kr c s0 (s.leave x):=by
 obtain ⟨l1,_,_,_,_,l6,l7,_⟩:=leave_all s x;exact ⟨by rw [l7];exact h.out,by rw [l1];exact h.bx,by rw [l6];exact h.la⟩
theorem setB_ne {s:St} {b':Bo} {j:Int} (h:j≠b'.id):(s.setB b').bx j=s.bx j:=updZ_ne _ _ h
theorem Pv.zero:Pv St.zero:=⟨(fun i b hb=>nomatch hb),(fun f g hg=>nomatch hg),(fun i b hb=>nomatch hb)⟩
end Go.Proofs.YthdengocipfgiaaGreat.W.C
