import Derived.Test.YthdengocipfgiaaGreatCbF
/- A part of what core's laws stand on. -/
set_option linter.unusedVariables false
set_option linter.unusedSimpArgs false
namespace Go.Proofs.YthdengocipfgiaaGreat.W.C
open Go.RowKit Go.Proofs.YthdengocipfgiaaGreat.W
def Cnt {κ α:Type} (a:κ→Option α) (n:Nat):Prop:=∃ l:List κ,l.Nodup∧l.length=n∧∀ i,i ∈ l↔(a i).isSome=true
theorem Cnt.zero {κ α:Type}:Cnt (fun _:κ=>(none:Option α)) 0:=⟨[],List.nodup_nil,rfl,fun i=>by simp⟩
theorem Cnt.set {κ α:Type} [DecidableEq κ] {a a':κ→Option α} {n:Nat} (h:Cnt a n) (k:κ) (hk:(a' k).isSome=true) (ho:∀ j,j≠k→(a' j).isSome=(a j).isSome):Cnt a' (if (a k).isSome then n else n+1):=by
 obtain ⟨l,h1,h2,h3⟩:=h
 cases q:(a k).isSome with
 | true =>
  refine ⟨l,h1,by simpa using h2,fun i=>?_⟩
  rw [h3]
  by_cases e:i=k
  ·subst e;rw [q,hk]
  ·rw [ho i e]
 | false =>
  refine ⟨k :: l,List.nodup_cons.2 ⟨fun m=>?_,h1⟩,by simp [h2],fun i=>?_⟩
  ·rw [h3,q] at m;cases m
  ·rw [List.mem_cons,h3]
   by_cases e:i=k
   ·subst e;simp [hk]
   ·rw [ho i e];simp [e]
theorem Cnt.del {κ α:Type} [DecidableEq κ] {a a':κ→Option α} {n:Nat} (h:Cnt a n) (k:κ) (hk:(a' k).isSome=false) (ho:∀ j,j≠k→(a' j).isSome=(a j).isSome):Cnt a' (if (a k).isSome then n-1 else n):=by
 obtain ⟨l,h1,h2,h3⟩:=h
 cases q:(a k).isSome with
 | false =>
  refine ⟨l,h1,by simpa using h2,fun i=>?_⟩
  rw [h3]
  by_cases e:i=k
  ·subst e;rw [q,hk]
  ·rw [ho i e]
 | true =>
  have hm:k ∈ l:=(h3 k).2 q;refine ⟨l.erase k,h1.erase k,by rw [List.length_erase_of_mem hm,h2];rfl,fun i=>?_⟩
  rw [h1.mem_erase_iff,h3]
  by_cases e:i=k
  ·subst e;simp [hk]
  ·rw [ho i e];simp [e]
theorem nodup_le:∀ (l m:List Int),l.Nodup→(∀ i ∈ l,i ∈ m)→l.length≤m.length
 | [],_,_,_=>by simp
 | a :: l,m,h,hs=>by
  rw [List.nodup_cons] at h;have ha:=hs a (by simp)
  have:=nodup_le l (m.erase a) h.2 (fun i hi=>by
   have:i≠a:=fun e=>h.1 (e ▸ hi)
   exact (List.mem_erase_of_ne this).2 (hs i (by simp [hi])))
  rw [List.length_erase_of_mem ha] at this;have:0<m.length:=List.length_pos_of_mem ha
  simp;omega
theorem Cnt.le {α:Type} {a:Int→Option α} {n:Nat} (h:Cnt a n) (lo:Int) (N:Nat) (hr:∀ i,(a i).isSome=true→lo≤i∧i<lo+N):n≤N:=by
 obtain ⟨l,h1,h2,h3⟩:=h
 have:=nodup_le l ((List.range N).map (fun (j:Nat)=>lo+(j:Int))) h1 (fun i hi=>by
  obtain ⟨q1,q2⟩:=hr i ((h3 i).1 hi);exact List.mem_map.2 ⟨(i-lo).toNat,by simp;omega,by omega⟩)
 simp at this;omega
theorem Cnt.pos {κ α:Type} {a:κ→Option α} {n:Nat} (h:Cnt a n) {k:κ} (hk:(a k).isSome=true):0<n:=by
 obtain ⟨l,h1,h2,h3⟩:=h;have:=List.length_pos_of_mem ((h3 k).2 hk);omega
theorem Cnt.ex {κ α:Type} {a:κ→Option α} {n:Nat} (h:Cnt a n) (hn:0<n):∃ k,(a k).isSome=true:=by
 obtain ⟨l,h1,h2,h3⟩:=h
 cases l with
 | nil=>simp at h2;omega
 | cons k l=>exact ⟨k,(h3 k).1 (by simp)⟩
theorem Cnt.none {κ α:Type} {a:κ→Option α} (h:Cnt a 0) (k:κ):a k=none:=by
 cases q:a k with
 | none=>rfl
 | some v=>have:=h.pos (k:=k) (by rw [q];rfl);omega
theorem Cnt.uniq {α β:Type} {a:Int→Option α} {b:Int→Option β} {n m:Nat} (h:Cnt a n) (k:Cnt b m) (e:∀ i,(a i).isSome=(b i).isSome):n=m:=by
 obtain ⟨l,h1,h2,h3⟩:=h;obtain ⟨r,k1,k2,k3⟩:=k;have x1:=nodup_le l r h1 (fun i hi=>(k3 i).2 (by rw [←e];exact (h3 i).1 hi))
 have x2:=nodup_le r l k1 (fun i hi=>(h3 i).2 (by rw [e];exact (k3 i).1 hi))
 omega
def upQ:Ph→Bool
 | .dead=>false
 | _=>true
def alB (bx:Int→Option Bo) (i:Int):Bool:=match bx i with | some b=>upQ b.q | none=>false
def useN (bx:Int→Option Bo) (h:Int) (j:Nat):Nat:=match bx ((j:Int)+1) with | some b=>if b.ho=h∧upQ b.q=true then b.me.toNat else 0 | none=>0
def spN (ca:Int→Option HR.V) (j:Nat):Nat:=match ca ((j:Int)+1) with | some v=>v.2.1 | none=>0
def mega:Nat:=1000000
def St.D (s:St):Nat:=s.last.toNat-s.mx.n
structure Inv (K e:Nat) (s:St):Prop where
 now:0≤s.now∧s.now≤1099511627776
 last:0≤s.last∧s.last+K<536870912
 cmx:Cnt s.mx.a s.mx.n
 cah:Cnt s.ah.a s.ah.n
 ctk:Cnt s.tk.a s.tk.n
 cfu:Cnt s.fu.a s.fu.n
 cpl:Cnt s.pl.a s.pl.n
 cT:Cnt s.T s.tn
 out:s.out.length+s.mx.n≤2*s.last.toNat
 bx:∀ i b,s.bx i=some b→b.id=i∧1≤i∧i≤s.last∧0≤b.fn∧b.fn<64∧0≤b.ho∧b.ho<32∧1≤b.me∧b.me≤4096∧0≤b.t∧b.t≤s.now
 al:∀ i,(s.mx.a i).isSome=alB s.bx i
 onP:∀ i b,s.bx i=some b→upQ b.q=true→(s.H b.ho).isSome=true∧∃ p,s.pl.a b.ho=some p∧(p.bo.a i).isSome=true
 onF:∀ i b,s.bx i=some b→upQ b.q=true→∃ g,s.fu.a b.fn=some g∧g.mem=b.me∧(g.pi.a i).isSome=b.p∧(g.lo.a i).isSome=!b.p
 bo:∀ h p i,s.pl.a h=some p→(p.bo.a i).isSome=true→∃ b,s.bx i=some b∧upQ b.q=true∧b.ho=h
 pi:∀ f g i,s.fu.a f=some g→(g.pi.a i).isSome=true→∃ b,s.bx i=some b∧upQ b.q=true∧b.fn=f
 lo:∀ f g i,s.fu.a f=some g→(g.lo.a i).isSome=true→∃ b,s.bx i=some b∧upQ b.q=true∧b.fn=f
 ca:∀ h p i v,s.pl.a h=some p→p.ca i=some v→v.2.2=i∧v.1≤mega*(s.D+e+1)*v.2.1∧∃ b,s.bx i=some b∧b.q=.warm∧b.p=false∧b.ho=h∧v.2.1=b.me.toNat
 pl:∀ h p,s.pl.a h=some p→0≤h∧h<32∧Cnt p.ca p.cn∧Cnt p.bo.a p.bo.n∧p.cl≤mega*(s.D+e)∧p.sp=(sumN (spN p.ca) s.last.toNat:Nat)
 fu:∀ f g,s.fu.a f=some g→0≤f∧f<64∧0≤g.acc∧g.acc<16∧1≤g.mem∧g.mem≤4096∧0≤g.cost∧g.cost≤1000∧0≤g.keep∧g.keep≤1000∧0≤g.often∧g.often≤1000∧-1≤g.ended∧g.ended≤s.now∧0≤g.unt∧g.unt≤4398046511104∧(s.tk.a g.acc).isSome=true
 fuC:∀ f g,s.fu.a f=some g→Cnt g.pi.a g.pi.n∧Cnt g.lo.a g.lo.n
 ho:∀ h d z u,s.H h=some (d,z,u)→0≤h∧h<32∧1≤z∧z≤4096∧u≤z∧(s.pl.a h).isSome=true∧u=sumN (useN s.bx h) s.last.toNat
 T0:∀ i t,s.T (0,i)=some t→∃ b,s.bx i=some b∧b.q=.warm∧b.p=false
 T1:∀ k t,s.T k=some t→k.1≠0→k.1=1∧(s.fu.a k.2).isSome=true
 ah:∀ i t,s.ah.a i=some t→(s.mx.a i).isSome=true∧0≤t∧t≤4398046511104
 tk:∀ a v,s.tk.a a=some v→0≤a∧a<16
theorem Cnt.one {α:Type} {a a':Int→Option α} {n:Nat} (h:Cnt a n) (e:∀ i,(a' i).isSome=(a i).isSome):Cnt a' n:=by
 obtain ⟨l,h1,h2,h3⟩:=h;exact ⟨l,h1,h2,fun i=>by rw [h3,e]⟩
theorem Tb.cset {α:Type} {m:Tb α} (h:Cnt m.a m.n) (i:Int) (v:α):Cnt (m.set i v).a (m.set i v).n :=
 h.set i (by rw [Tb.set_at];rfl) (fun j e=>by rw [Tb.set_ne _ _ e])
theorem Tb.cdel {α:Type} {m:Tb α} (h:Cnt m.a m.n) (i:Int):Cnt (m.del i).a (m.del i).n :=
 h.del i (by rw [Tb.del_at];rfl) (fun j e=>by rw [Tb.del_ne _ e])
theorem Tb.a_set {α:Type} (m:Tb α) (i j:Int) (v:α):(m.set i v).a j=if j=i then some v else m.a j:=by
 split
 ·subst_vars;exact Tb.set_at _ _ _
 ·exact Tb.set_ne _ _ (by assumption)
theorem Tb.a_del {α:Type} (m:Tb α) (i j:Int):(m.del i).a j=if j=i then none else m.a j:=by
 split
 ·subst_vars;exact Tb.del_at _ _
 ·exact Tb.del_ne _ (by assumption)
theorem updZ_at {α:Type} (f:Int→Option α) (i j:Int) (a:Option α):updZ f i a j=if j=i then a else f j:=rfl
theorem updT_at {α:Type} (f:HT.K→Option α) (i j:HT.K) (a:Option α):HT.updZ f i a j=if j=i then a else f j:=rfl
theorem Inv.setP {K e:Nat} {s:St} (h:Inv K e s) {x:Int} {p p':Pl} (ep:s.pl.a x=some p) (hbo:p'.bo=p.bo)
  (hca:∀ i v,p'.ca i=some v→v.2.2=i∧v.1≤mega*(s.D+e+1)*v.2.1∧∃ b,s.bx i=some b∧b.q=.warm∧b.p=false∧b.ho=x∧v.2.1=b.me.toNat)
  (hc:Cnt p'.ca p'.cn) (hcl:p'.cl≤mega*(s.D+e)) (hsp:p'.sp=(sumN (spN p'.ca) s.last.toNat:Nat)):Inv K e (s.setP x p'):=by
 have hx:=h.pl x p ep
 have key:∀ y q,(s.setP x p').pl.a y=some q→(y=x∧q=p')∨(y≠x∧s.pl.a y=some q):=by
  intro y q hq;rw [show (s.setP x p').pl.a y=_ from Tb.a_set _ _ _ _] at hq
  split at hq
  ·cases hq;exact Or.inl ⟨by assumption,rfl⟩
  ·exact Or.inr ⟨by assumption,hq⟩
 have kin:∀ y q,s.pl.a y=some q→∃ q',(s.setP x p').pl.a y=some q'∧q'.bo=q.bo:=by
  intro y q hq;rw [show (s.setP x p').pl.a y=_ from Tb.a_set _ _ _ _]
  split
  ·subst_vars;rw [hq] at ep;cases ep;exact ⟨_,rfl,hbo⟩
  ·exact ⟨_,hq,rfl⟩
 refine { h with cpl:=Tb.cset h.cpl x p',onP:=?_,bo:=?_,ca:=?_,pl:=?_,ho:=?_ }
 ·intro i b hb hq
  obtain ⟨h1,q,h2,h3⟩:=h.onP i b hb hq;obtain ⟨q',h4,h5⟩:=kin _ _ h2;exact ⟨h1,q',h4,by rw [h5];exact h3⟩
 ·intro y q i hq hi
  rcases key _ _ hq with ⟨rfl,rfl⟩ | ⟨_,hq⟩
  ·exact h.bo y p i ep (by rw [←hbo];exact hi)
  ·exact h.bo y q i hq hi
 ·intro y q i v hq hv
  rcases key _ _ hq with ⟨rfl,rfl⟩ | ⟨_,hq⟩
  ·exact hca i v hv
  ·exact h.ca y q i v hq hv
 ·intro y q hq
  rcases key _ _ hq with ⟨rfl,rfl⟩ | ⟨_,hq⟩
  ·exact ⟨hx.1,hx.2.1,hc,by rw [hbo];exact hx.2.2.2.1,hcl,hsp⟩
  ·exact h.pl y q hq
 ·intro y d z u hy
  obtain ⟨h1,h2,h3,h4,h5,h6,h7⟩:=h.ho y d z u hy;obtain ⟨q,hq⟩:=Option.isSome_iff_exists.1 h6;obtain ⟨q',hq',_⟩:=kin _ _ hq;exact ⟨h1,h2,h3,h4,h5,by rw [hq'];rfl,h7⟩
theorem Inv.delT {K e:Nat} {s:St} (h:Inv K e s) (k:HT.K):Inv K e (s.delT k):=by
 have key:∀ j t,(s.delT k).T j=some t→s.T j=some t:=by
  intro j t hj;rw [show (s.delT k).T j=_ from updT_at _ _ _ _] at hj
  split at hj
  ·cases hj
  ·exact hj
 refine { h with cT:=?_,T0:=fun i t q=>h.T0 i t (key _ _ q),T1:=fun j t q=>h.T1 j t (key _ _ q) }
 exact h.cT.del k (by rw [show (s.delT k).T k=_ from updT_at _ _ _ _,if_pos rfl];rfl) (fun j e=>by rw [show (s.delT k).T j=_ from updT_at _ _ _ _,if_neg e])
theorem Inv.setT0 {K e:Nat} {s:St} (h:Inv K e s) {i:Int} {b:Bo} (hb:s.bx i=some b) (hq:b.q=.warm) (hp:b.p=false) (t:Int):Inv K e (s.setT (0,i) t):=by
 have key:∀ j u,(s.setT (0,i) t).T j=some u→j=(0,i)∨s.T j=some u:=by
  intro j u hj;rw [show (s.setT (0,i) t).T j=_ from updT_at _ _ _ _] at hj
  split at hj
  ·exact Or.inl (by assumption)
  ·exact Or.inr hj
 refine { h with cT:=?_,T0:=?_,T1:=?_ }
 ·exact h.cT.set (0,i) (by rw [show (s.setT (0,i) t).T (0,i)=_ from updT_at _ _ _ _,if_pos rfl];rfl) (fun j e=>by rw [show (s.setT (0,i) t).T j=_ from updT_at _ _ _ _,if_neg e])
 ·intro j u q
  rcases key _ _ q with q | q
  ·cases q;exact ⟨b,hb,hq,hp⟩
  ·exact h.T0 j u q
 ·intro j u q hne
  rcases key _ _ q with q | q
  ·rw [q] at hne;exact absurd rfl hne
  ·exact h.T1 j u q hne
theorem Inv.setT1 {K e:Nat} {s:St} (h:Inv K e s) {f:Int} {g:Fu} (hg:s.fu.a f=some g) (t:Int):Inv K e (s.setT (1,f) t):=by
 have key:∀ j u,(s.setT (1,f) t).T j=some u→j=(1,f)∨s.T j=some u:=by
  intro j u hj;rw [show (s.setT (1,f) t).T j=_ from updT_at _ _ _ _] at hj
  split at hj
  ·exact Or.inl (by assumption)
  ·exact Or.inr hj
 refine { h with cT:=?_,T0:=?_,T1:=?_ }
 ·exact h.cT.set (1,f) (by rw [show (s.setT (1,f) t).T (1,f)=_ from updT_at _ _ _ _,if_pos rfl];rfl) (fun j e=>by rw [show (s.setT (1,f) t).T j=_ from updT_at _ _ _ _,if_neg e])
 ·intro j u q
  rcases key _ _ q with q | q
  ·cases q
  ·exact h.T0 j u q
 ·intro j u q hne
  rcases key _ _ q with q | q
  ·rw [q];exact ⟨rfl,by rw [show (s.setT (1,f) t).fu=s.fu from rfl,hg];rfl⟩
  ·exact h.T1 j u q hne
theorem Inv.led {K e:Nat} {s:St} (h:Inv K e s) (A:Int→Option Nat) (F:Int→Option Fn):Inv K e { s with A:=A,F:=F }:={ h with }
theorem dropP_bo (p:Pl) (i me:Int):(dropP p i me).bo=p.bo:=by unfold dropP;split <;> rfl
theorem dropP_cl (p:Pl) (i me:Int):(dropP p i me).cl=p.cl:=by unfold dropP;split <;> rfl
theorem dropP_ca (p:Pl) (i me j:Int):(dropP p i me).ca j=if j=i then none else p.ca j:=by
 unfold dropP
 cases q:p.ca i with
 | none =>
  dsimp only
  split
  ·subst_vars;exact q
  ·rfl
 | some v=>rfl
theorem dropP_cnt {p:Pl} (h:Cnt p.ca p.cn) (i me:Int):Cnt (dropP p i me).ca (dropP p i me).cn:=by
 have:=h.del i (a':=(dropP p i me).ca) (by rw [dropP_ca,if_pos rfl];rfl) (fun j e=>by rw [dropP_ca,if_neg e])
 have e:(dropP p i me).cn=if (p.ca i).isSome then p.cn-1 else p.cn:=by
  unfold dropP;cases q:p.ca i <;> rfl
 rw [e];exact this
theorem sp_out {ca ca':Int→Option HR.V} {i:Int} {n:Nat} {v:HR.V} (hv:ca i=some v) (h1:1≤i) (h2:i≤n) (hi:ca' i=none) (ho:∀ j,j≠i→ca' j=ca j):sumN (spN ca') n+v.2.1=sumN (spN ca) n:=by
 have:=sumN_upd (g:=spN ca) (g':=spN ca') (x:=(i-1).toNat) (fun j hj=>by unfold spN;rw [ho _ (by omega)]) (n:=n) (by omega)
 have e1:spN ca (i-1).toNat=v.2.1:=by unfold spN;rw [show (((i-1).toNat:Nat):Int)+1=i by omega,hv]
 have e2:spN ca' (i-1).toNat=0:=by unfold spN;rw [show (((i-1).toNat:Nat):Int)+1=i by omega,hi]
 omega
theorem sp_in {ca ca':Int→Option HR.V} {i:Int} {n:Nat} {v:HR.V} (hv:ca' i=some v) (h1:1≤i) (h2:i≤n) (hi:ca i=none) (ho:∀ j,j≠i→ca' j=ca j):sumN (spN ca') n=sumN (spN ca) n+v.2.1:=(sp_out hv h1 h2 hi (fun j e=>(ho j e).symm)).symm
theorem Inv.hold {K e:Nat} {s:St} (h:Inv K e s) {i:Int} {b:Bo} (hb:s.bx i=some b) (hu:upQ b.q=true):Inv K e (s.hold i):=by
 obtain ⟨_,p,ep,_⟩:=h.onP i b hb hu;unfold St.hold;rw [St.B_of hb,St.P_of ep];have hp:=h.pl _ _ ep;have hbx:=h.bx i b hb;refine (h.setP ep (dropP_bo _ _ _) ?_ (dropP_cnt hp.2.2.1 _ _) (by rw [dropP_cl];exact hp.2.2.2.2.1) ?_).delT _
 ·intro j v hv
  rw [dropP_ca] at hv
  split at hv
  ·cases hv
  ·exact h.ca _ _ j v ep hv
 ·cases q:p.ca i with
  | none =>
   have:dropP p i b.me=p:=by unfold dropP;rw [q]
   rw [this];exact hp.2.2.2.2.2
  | some v =>
   obtain ⟨_,_,b',hb',_,_,_,hm⟩:=h.ca _ _ i v ep q;rw [hb] at hb';cases hb';have:=sp_out (ca:=p.ca) (ca':=(dropP p i b.me).ca) (i:=i) (n:=s.last.toNat) q hbx.2.1 (by omega) (by rw [dropP_ca,if_pos rfl]) (fun j e=>by rw [dropP_ca,if_neg e])
   have e2:(dropP p i b.me).sp=p.sp-b.me:=by unfold dropP;rw [q]
   rw [e2,hp.2.2.2.2.2];omega
theorem Inv.mono {K e:Nat} {s:St} (h:Inv K e s) {K' e':Nat} (hK:K'≤K) (he:e≤e'):Inv K' e' s:=by
 have hm:∀ c,mega*(s.D+e+c)≤mega*(s.D+e'+c):=fun c=>Nat.mul_le_mul_left _ (by omega)
 refine { h with last:=?_,ca:=?_,pl:=?_ }
 ·have:=h.last;omega
 ·intro x p i v hp hv
  obtain ⟨h1,h2,h3⟩:=h.ca x p i v hp hv;exact ⟨h1,Nat.le_trans h2 (Nat.mul_le_mul_right _ (hm 1)),h3⟩
 ·intro x p hp
  obtain ⟨h1,h2,h3,h4,h5,h6⟩:=h.pl x p hp;exact ⟨h1,h2,h3,h4,Nat.le_trans h5 (hm 0),h6⟩
theorem Inv.setG {K e:Nat} {s:St} (h:Inv K e s) {f:Int} {g g':Fu} (eg:s.fu.a f=some g) (hpi:g'.pi=g.pi) (hlo:g'.lo=g.lo) (hm:g'.mem=g.mem)
  (hg:0≤g'.acc∧g'.acc<16∧0≤g'.cost∧g'.cost≤1000∧0≤g'.keep∧g'.keep≤1000∧0≤g'.often∧g'.often≤1000∧-1≤g'.ended∧g'.ended≤s.now∧0≤g'.unt∧g'.unt≤4398046511104∧(s.tk.a g'.acc).isSome=true):Inv K e (s.setG f g'):=by
 have hf:=h.fu f g eg
 have key:∀ y q,(s.setG f g').fu.a y=some q→(y=f∧q=g')∨(y≠f∧s.fu.a y=some q):=by
  intro y q hq;rw [show (s.setG f g').fu.a y=_ from Tb.a_set _ _ _ _] at hq
  split at hq
  ·cases hq;exact Or.inl ⟨by assumption,rfl⟩
  ·exact Or.inr ⟨by assumption,hq⟩
 have kin:∀ y q,s.fu.a y=some q→∃ q',(s.setG f g').fu.a y=some q'∧q'.pi=q.pi∧q'.lo=q.lo∧q'.mem=q.mem:=by
  intro y q hq;rw [show (s.setG f g').fu.a y=_ from Tb.a_set _ _ _ _]
  split
  ·subst_vars;rw [hq] at eg;cases eg;exact ⟨_,rfl,hpi,hlo,hm⟩
  ·exact ⟨_,hq,rfl,rfl,rfl⟩
 refine { h with cfu:=Tb.cset h.cfu f g',onF:=?_,pi:=?_,lo:=?_,fu:=?_,fuC:=?_,T1:=?_ }
 ·intro i b hb hq
  obtain ⟨q,h1,h2,h3,h4⟩:=h.onF i b hb hq;obtain ⟨q',k1,k2,k3,k4⟩:=kin _ _ h1;exact ⟨q',k1,by rw [k4];exact h2,by rw [k2];exact h3,by rw [k3];exact h4⟩
 ·intro y q i hq hi
  rcases key _ _ hq with ⟨rfl,rfl⟩ | ⟨_,hq⟩
  ·exact h.pi y g i eg (by rw [←hpi];exact hi)
  ·exact h.pi y q i hq hi
 ·intro y q i hq hi
  rcases key _ _ hq with ⟨rfl,rfl⟩ | ⟨_,hq⟩
  ·exact h.lo y g i eg (by rw [←hlo];exact hi)
  ·exact h.lo y q i hq hi
 ·intro y q hq
  rcases key _ _ hq with ⟨rfl,rfl⟩ | ⟨_,hq⟩
  ·obtain ⟨a1,a2,a3,a4,a5,a6,a7,a8,a9,a10,a11,a12,a13⟩:=hg
   exact ⟨hf.1,hf.2.1,a1,a2,by rw [hm];exact hf.2.2.2.2.1,by rw [hm];exact hf.2.2.2.2.2.1,a3,a4,a5,a6,a7,a8,a9,a10,a11,a12,a13⟩
  ·exact h.fu y q hq
 ·intro y q hq
  rcases key _ _ hq with ⟨rfl,rfl⟩ | ⟨_,hq⟩
  ·rw [hpi,hlo];exact h.fuC y g eg
  ·exact h.fuC y q hq
 ·intro k t hk hne
  obtain ⟨h1,h2⟩:=h.T1 k t hk hne;obtain ⟨q,hq⟩:=Option.isSome_iff_exists.1 h2;obtain ⟨q',hq',_⟩:=kin _ _ hq;exact ⟨h1,by rw [hq'];rfl⟩
theorem alB_set (bx:Int→Option Bo) (i j:Int) (b:Bo):alB (updZ bx i (some b)) j=if j=i then upQ b.q else alB bx j:=by
 unfold alB;rw [updZ_at];by_cases e:j=i
 ·rw [if_pos e,if_pos e]
 ·rw [if_neg e,if_neg e]
theorem useN_same {bx bx':Int→Option Bo} {x:Int} {j:Nat} (h:bx' ((j:Int)+1)=bx ((j:Int)+1)):useN bx' x j=useN bx x j:=by unfold useN;rw [h]
theorem useN_at {bx:Int→Option Bo} {x i:Int} {b:Bo} (h:bx i=some b) (hi:1≤i):useN bx x (i-1).toNat=if b.ho=x∧upQ b.q=true then b.me.toNat else 0:=by
 unfold useN;rw [show (((i-1).toNat:Nat):Int)+1=i by omega,h]
theorem use_ext {bx bx':Int→Option Bo} (x:Int) (n:Nat) (h:∀ j,useN bx' x j=useN bx x j):sumN (useN bx' x) n=sumN (useN bx x) n:=sumN_ext (fun j _=>h j)
theorem Inv.turnB {K e:Nat} {s:St} (h:Inv K e s) {i:Int} {b b':Bo} (hb:s.bx i=some b) (hu:upQ b.q=true) (hid:b'.id=b.id∧b'.fn=b.fn∧b'.ho=b.ho∧b'.me=b.me∧b'.p=b.p) (hu':upQ b'.q=true) (ht:0≤b'.t∧b'.t≤s.now)
  (hca:∀ p,s.pl.a b.ho=some p→p.ca i=none) (hT:s.T (0,i)=none):Inv K e (s.setB b'):=by
 have hbx:=h.bx i b hb;obtain ⟨e1,e2,e3,e4,e5⟩:=hid;have hi:b'.id=i:=by rw [e1];exact hbx.1
 have at_:∀ j,(s.setB b').bx j=if j=i then some b' else s.bx j:=by
  intro j;rw [show (s.setB b').bx j=_ from updZ_at _ _ _ _,hi]
 have ex:∀ j c,s.bx j=some c→j≠i→(s.setB b').bx j=some c:=fun j c hc hj=>by rw [at_,if_neg hj];exact hc
 have fw:∀ j,(∃ c,s.bx j=some c∧upQ c.q=true)→True:=fun _ _=>trivial;refine { h with bx:=?_,al:=?_,onP:=?_,onF:=?_,bo:=?_,pi:=?_,lo:=?_,ca:=?_,ho:=?_,T0:=?_ }
 ·intro j c hc
  rw [at_] at hc
  split at hc
  ·rename_i hj
   cases hc;rw [hj];have hl:(s.setB b').last=s.last:=rfl
   have hn:(s.setB b').now=s.now:=rfl;exact ⟨hi,by omega⟩
  ·exact h.bx j c hc
 ·intro j
  rw [show alB (s.setB b').bx j=_ from alB_set _ _ _ _]
  rw [show (s.setB b').mx=s.mx from rfl,h.al,hi]
  split
  ·subst_vars;unfold alB;rw [hb];dsimp only;rw [hu,hu']
  ·rfl
 ·intro j c hc hq
  rw [at_] at hc
  split at hc
  ·cases hc;subst_vars;rw [e3];exact h.onP _ _ hb hu
  ·exact h.onP j c hc hq
 ·intro j c hc hq
  rw [at_] at hc
  split at hc
  ·cases hc;subst_vars;rw [e2,e4,e5];exact h.onF _ _ hb hu
  ·exact h.onF j c hc hq
 ·intro x p j hp hj
  obtain ⟨c,h1,h2,h3⟩:=h.bo x p j hp hj
  by_cases q:j=i
  ·subst q;rw [hb] at h1;cases h1;exact ⟨b',by rw [at_,if_pos rfl],hu',by rw [e3];exact h3⟩
  ·exact ⟨c,ex _ _ h1 q,h2,h3⟩
 ·intro x p j hp hj
  obtain ⟨c,h1,h2,h3⟩:=h.pi x p j hp hj
  by_cases q:j=i
  ·subst q;rw [hb] at h1;cases h1;exact ⟨b',by rw [at_,if_pos rfl],hu',by rw [e2];exact h3⟩
  ·exact ⟨c,ex _ _ h1 q,h2,h3⟩
 ·intro x p j hp hj
  obtain ⟨c,h1,h2,h3⟩:=h.lo x p j hp hj
  by_cases q:j=i
  ·subst q;rw [hb] at h1;cases h1;exact ⟨b',by rw [at_,if_pos rfl],hu',by rw [e2];exact h3⟩
  ·exact ⟨c,ex _ _ h1 q,h2,h3⟩
 ·intro x p j v hp hv
  obtain ⟨h1,h2,c,h3,h4,h5,h6,h7⟩:=h.ca x p j v hp hv
  by_cases q:j=i
  ·subst q;rw [hb] at h3;cases h3
   rw [hca p (by rw [h6];exact hp)] at hv;cases hv
  ·exact ⟨h1,h2,c,ex _ _ h3 q,h4,h5,h6,h7⟩
 ·intro x d z u hx
  obtain ⟨h1,h2,h3,h4,h5,h6,h7⟩:=h.ho x d z u hx;refine ⟨h1,h2,h3,h4,h5,h6,?_⟩;rw [h7];refine (use_ext x _ (fun j=>?_)).symm
  by_cases q:(j:Int)+1=i
  ·have q2:j=(i-1).toNat:=by omega
   rw [q2,useN_at (b:=b') (by rw [at_,if_pos rfl]) hbx.2.1,useN_at hb hbx.2.1,e3,e4,hu,hu']
  ·exact useN_same (by rw [at_,if_neg q])
 ·intro j t ht
  obtain ⟨c,h1,h2,h3⟩:=h.T0 j t ht
  by_cases q:j=i
  ·subst q;rw [show (s.setB b').T=s.T from rfl,hT] at ht;cases ht
  ·exact ⟨c,ex _ _ h1 q,h2,h3⟩
theorem Inv.move {K e:Nat} {s:St} (h:Inv K e s) {i:Int} {b:Bo} {g g':Fu} (hb:s.bx i=some b) (hu:upQ b.q=true) (eg:s.fu.a b.fn=some g) (c:Bool)
  (hc:c=true→(∀ p,s.pl.a b.ho=some p→p.ca i=none)∧s.T (0,i)=none)
  (hg:g'.acc=g.acc∧g'.mem=g.mem∧g'.cost=g.cost∧g'.keep=g.keep∧g'.often=g.often∧g'.ended=g.ended∧g'.unt=g.unt)
  (hpc:Cnt g'.pi.a g'.pi.n) (hlc:Cnt g'.lo.a g'.lo.n) (hpi:(g'.pi.a i).isSome=c) (hlo:(g'.lo.a i).isSome=!c)
  (hpo:∀ j,j≠i→(g'.pi.a j).isSome=(g.pi.a j).isSome) (hloo:∀ j,j≠i→(g'.lo.a j).isSome=(g.lo.a j).isSome) :
  Inv K e ((s.setB { b with p:=c }).setG b.fn g'):=by
 have hbx:=h.bx i b hb;have hi:b.id=i:=hbx.1;obtain ⟨g0,eg0,hgm,hgp,hgl⟩:=h.onF i b hb hu;rw [eg] at eg0;cases eg0;have hf:=h.fu _ _ eg;obtain ⟨b',hb'⟩:∃ b':Bo,{ b with p:=c }=b':=⟨_,rfl⟩;have e1:b'.id=b.id:=by rw [←hb']
 have e2:b'.fn=b.fn:=by rw [←hb']
 have e3:b'.ho=b.ho:=by rw [←hb']
 have e4:b'.me=b.me:=by rw [←hb']
 have e5:b'.q=b.q:=by rw [←hb']
 have e6:b'.t=b.t:=by rw [←hb']
 have e7:b'.p=c:=by rw [←hb']
 rw [hb']
 have at_:∀ j,((s.setB b').setG b.fn g').bx j=if j=i then some b' else s.bx j:=by
  intro j;rw [show ((s.setB b').setG b.fn g').bx j=_ from updZ_at _ _ _ _,e1,hi]
 have ex:∀ j c,s.bx j=some c→j≠i→((s.setB b').setG b.fn g').bx j=some c:=fun j c hc hj=>by rw [at_,if_neg hj];exact hc
 have key:∀ y q,((s.setB b').setG b.fn g').fu.a y=some q→(y=b.fn∧q=g')∨(y≠b.fn∧s.fu.a y=some q):=by
  intro y q hq;rw [show ((s.setB b').setG b.fn g').fu.a y=_ from Tb.a_set _ _ _ _] at hq
  split at hq
  ·cases hq;exact Or.inl ⟨by assumption,rfl⟩
  ·exact Or.inr ⟨by assumption,hq⟩
 have gat:((s.setB b').setG b.fn g').fu.a b.fn=some g':=by
  rw [show ((s.setB b').setG b.fn g').fu.a b.fn=_ from Tb.a_set _ _ _ _,if_pos rfl]
 have gne:∀ y,y≠b.fn→((s.setB b').setG b.fn g').fu.a y=s.fu.a y:=fun y hy=>by
  rw [show ((s.setB b').setG b.fn g').fu.a y=_ from Tb.a_set _ _ _ _,if_neg hy];rfl
 obtain ⟨f1,f2,f3,f4,f5,f6,f7⟩:=hg;refine { h with cfu:=Tb.cset h.cfu b.fn g',bx:=?_,al:=?_,onP:=?_,onF:=?_,bo:=?_,pi:=?_,lo:=?_,ca:=?_,fu:=?_,fuC:=?_,ho:=?_,T0:=?_,T1:=?_ }
 ·intro j d hd
  rw [at_] at hd
  split at hd
  ·rename_i hj
   cases hd;rw [hj]
   have hl:((s.setB b').setG b.fn g').last=s.last:=rfl;have hn:((s.setB b').setG b.fn g').now=s.now:=rfl;exact ⟨by rw [e1];exact hi,by omega⟩
  ·exact h.bx j d hd
 ·intro j
  rw [show alB ((s.setB b').setG b.fn g').bx j=_ from alB_set _ _ _ _]
  rw [show ((s.setB b').setG b.fn g').mx=s.mx from rfl,h.al,e1,hi]
  split
  ·subst_vars;unfold alB;rw [hb];dsimp only;rw [e5]
  ·rfl
 ·intro j d hd hq
  rw [at_] at hd
  split at hd
  ·rename_i hj
   cases hd;rw [hj,e3];exact h.onP _ _ hb hu
  ·exact h.onP j d hd hq
 ·intro j d hd hq
  rw [at_] at hd
  split at hd
  ·rename_i hj
   cases hd;rw [hj,e2,e4,e7];exact ⟨g',gat,by rw [f2];exact hgm,hpi,hlo⟩
  ·rename_i hj
   obtain ⟨q,k1,k2,k3,k4⟩:=h.onF j d hd hq
   by_cases hfn:d.fn=b.fn
   ·rw [hfn,eg] at k1;cases k1
    exact ⟨g',by rw [hfn];exact gat,by rw [f2];exact k2,by rw [hpo j hj];exact k3,by rw [hloo j hj];exact k4⟩
   ·exact ⟨q,by rw [gne _ hfn];exact k1,k2,k3,k4⟩
 ·intro x p j hp hj
  obtain ⟨d,h1,h2,h3⟩:=h.bo x p j hp hj
  by_cases q:j=i
  ·subst q;rw [hb] at h1;cases h1;exact ⟨b',by rw [at_,if_pos rfl],by rw [e5];exact hu,by rw [e3];exact h3⟩
  ·exact ⟨d,ex _ _ h1 q,h2,h3⟩
 ·intro x p j hp hj
  by_cases q:j=i
  ·subst q
   rcases key _ _ hp with ⟨rfl,rfl⟩ | ⟨hx,hp⟩
   ·exact ⟨b',by rw [at_,if_pos rfl],by rw [e5];exact hu,e2⟩
   ·obtain ⟨d,h1,h2,h3⟩:=h.pi x p j hp hj
    rw [hb] at h1;cases h1;exact absurd h3.symm hx
  ·rcases key _ _ hp with ⟨rfl,rfl⟩ | ⟨hx,hp⟩
   ·obtain ⟨d,h1,h2,h3⟩:=h.pi b.fn g j eg (by rw [←hpo j q];exact hj)
    exact ⟨d,ex _ _ h1 q,h2,h3⟩
   ·obtain ⟨d,h1,h2,h3⟩:=h.pi x p j hp hj
    exact ⟨d,ex _ _ h1 q,h2,h3⟩
 ·intro x p j hp hj
  by_cases q:j=i
  ·subst q
   rcases key _ _ hp with ⟨rfl,rfl⟩ | ⟨hx,hp⟩
   ·exact ⟨b',by rw [at_,if_pos rfl],by rw [e5];exact hu,e2⟩
   ·obtain ⟨d,h1,h2,h3⟩:=h.lo x p j hp hj
    rw [hb] at h1;cases h1;exact absurd h3.symm hx
  ·rcases key _ _ hp with ⟨rfl,rfl⟩ | ⟨hx,hp⟩
   ·obtain ⟨d,h1,h2,h3⟩:=h.lo b.fn g j eg (by rw [←hloo j q];exact hj)
    exact ⟨d,ex _ _ h1 q,h2,h3⟩
   ·obtain ⟨d,h1,h2,h3⟩:=h.lo x p j hp hj
    exact ⟨d,ex _ _ h1 q,h2,h3⟩
 ·intro x p j v hp hv
  obtain ⟨h1,h2,d,h3,h4,h5,h6,h7⟩:=h.ca x p j v hp hv
  by_cases q:j=i
  ·subst q;rw [hb] at h3;cases h3
   cases c with
   | true=>rw [(hc rfl).1 p (by rw [h6];exact hp)] at hv;cases hv
   | false=>exact ⟨h1,h2,b',by rw [at_,if_pos rfl],by rw [e5];exact h4,e7,by rw [e3];exact h6,by rw [e4];exact h7⟩
  ·exact ⟨h1,h2,d,ex _ _ h3 q,h4,h5,h6,h7⟩
 ·intro y q hq
  rcases key _ _ hq with ⟨rfl,rfl⟩ | ⟨_,hq⟩
  ·have hl:((s.setB b').setG b.fn q).now=s.now:=rfl
   rw [f1,f2,f3,f4,f5,f6,f7];exact hf
  ·exact h.fu y q hq
 ·intro y q hq
  rcases key _ _ hq with ⟨rfl,rfl⟩ | ⟨_,hq⟩
  ·exact ⟨hpc,hlc⟩
  ·exact h.fuC y q hq
 ·intro x d z u hx
  obtain ⟨h1,h2,h3,h4,h5,h6,h7⟩:=h.ho x d z u hx;refine ⟨h1,h2,h3,h4,h5,h6,?_⟩;rw [h7];refine (use_ext x _ (fun j=>?_)).symm
  by_cases q:(j:Int)+1=i
  ·have q2:j=(i-1).toNat:=by omega
   rw [q2,useN_at (b:=b') (by rw [at_,if_pos rfl]) hbx.2.1,useN_at hb hbx.2.1,e3,e4,e5]
  ·exact useN_same (by rw [at_,if_neg q])
 ·intro j t ht
  obtain ⟨d,h1,h2,h3⟩:=h.T0 j t ht
  by_cases q:j=i
  ·subst q;rw [hb] at h1;cases h1
   cases c with
   | true=>rw [show ((s.setB b').setG b.fn g').T=s.T from rfl,(hc rfl).2] at ht;cases ht
   | false=>exact ⟨b',by rw [at_,if_pos rfl],by rw [e5];exact h2,e7⟩
  ·exact ⟨d,ex _ _ h1 q,h2,h3⟩
 ·intro k t hk hne
  obtain ⟨h1,h2⟩:=h.T1 k t hk hne;refine ⟨h1,?_⟩
  by_cases q:k.2=b.fn
  ·rw [q,gat];rfl
  ·rw [gne _ q];exact h2
theorem hold_ca {s:St} {i:Int} {b:Bo} (hb:s.bx i=some b) (p:Pl) (hp:(s.hold i).pl.a b.ho=some p):p.ca i=none:=by
 unfold St.hold at hp;rw [St.B_of hb] at hp;rw [show ((s.setP b.ho (dropP (s.P b.ho) i b.me)).delT (0,i)).pl.a b.ho=_ from Tb.a_set _ _ _ _,if_pos rfl] at hp
 cases hp
 rw [dropP_ca,if_pos rfl]
theorem hold_T {s:St} {i:Int}:(s.hold i).T (0,i)=none:=by
 rw [show (s.hold i).T (0,i)=_ from updT_at _ _ _ _,if_pos rfl]
theorem Inv.pin {K e:Nat} {s:St} (h:Inv K e s) {i:Int} {b:Bo} (hb:s.bx i=some b) (hu:upQ b.q=true):Inv K e (s.pin i):=by
 obtain ⟨g,eg,_,hp,hl⟩:=h.onF i b hb hu;have hc:=h.fuC _ _ eg;unfold St.pin;rw [St.B_of hb,St.G_of eg];refine (h.hold hb hu).move (b:=b) (g:=g) hb hu eg true (fun _=>⟨fun p q=>hold_ca hb p q,hold_T⟩) ⟨rfl,rfl,rfl,rfl,rfl,rfl,rfl⟩ (Tb.cset hc.1 _ _) (Tb.cdel hc.2 _) ?_ ?_ ?_ ?_
 ·show ((g.pi.set i ()).a i).isSome=_;rw [Tb.set_at];rfl
 ·show ((g.lo.del i).a i).isSome=_;rw [Tb.del_at];rfl
 ·intro j hj;show ((g.pi.set i ()).a j).isSome=_;rw [Tb.set_ne _ _ hj]
 ·intro j hj;show ((g.lo.del i).a j).isSome=_;rw [Tb.del_ne _ hj]
theorem Inv.unpin {K e:Nat} {s:St} (h:Inv K e s) {i:Int} {b:Bo} (hb:s.bx i=some b) (hu:upQ b.q=true):Inv K e (s.unpin i):=by
 obtain ⟨g,eg,_,hp,hl⟩:=h.onF i b hb hu;have hc:=h.fuC _ _ eg;unfold St.unpin;rw [St.B_of hb,St.G_of eg];refine h.move (b:=b) (g:=g) hb hu eg false (fun q=>nomatch q) ⟨rfl,rfl,rfl,rfl,rfl,rfl,rfl⟩ (Tb.cdel hc.1 _) (Tb.cset hc.2 _ _) ?_ ?_ ?_ ?_
 ·show ((g.pi.del i).a i).isSome=_;rw [Tb.del_at];rfl
 ·show ((g.lo.set i ()).a i).isSome=_;rw [Tb.set_at];rfl
 ·intro j hj;show ((g.pi.del i).a j).isSome=_;rw [Tb.del_ne _ hj]
 ·intro j hj;show ((g.lo.set i ()).a j).isSome=_;rw [Tb.set_ne _ _ hj]
theorem Inv.mxle {K e:Nat} {s:St} (h:Inv K e s):s.mx.n≤s.last.toNat :=
 h.cmx.le 1 _ (fun i hi=>by
  rw [h.al] at hi;unfold alB at hi
  cases q:s.bx i with
  | none=>rw [q] at hi;cases hi
  | some b=>have:=h.bx i b q;have:=h.last;omega)
theorem Inv.alive {K e:Nat} {s:St} (h:Inv K e s) {i:Int} (hi:(s.mx.a i).isSome=true):∃ b,s.bx i=some b∧upQ b.q=true:=by
 rw [h.al] at hi;unfold alB at hi
 cases q:s.bx i with
 | none=>rw [q] at hi;cases hi
 | some b=>rw [q] at hi;exact ⟨b,rfl,hi⟩
theorem Inv.mx_of {K e:Nat} {s:St} (h:Inv K e s) {i:Int} {b:Bo} (hb:s.bx i=some b) (hu:upQ b.q=true):(s.mx.a i).isSome=true:=by
 rw [h.al];unfold alB;rw [hb];exact hu
theorem nx3 {b:Bo} (hu:upQ b.q=true) (now:Int):(nx 3 b now).1={ b with q:=.dead,p:=false,t:=now }:=by
 obtain ⟨i,f,x,m,q,p,t⟩:=b
 cases q <;> first | rfl | cases hu
theorem use_le (bx:Int→Option Bo) (x:Int) {k n:Nat} (h:k<n):useN bx x k≤sumN (useN bx x) n:=by
 have h0:=sumN_upd (g:=useN bx x) (g':=fun j=>if j=k then 0 else useN bx x j) (x:=k) (fun j hj=>by simp [hj]) h
 simp at h0;omega
theorem Inv.use {K e:Nat} {s:St} (h:Inv K e s) {i:Int} {b:Bo} (hb:s.bx i=some b) (hu:upQ b.q=true):b.me≤(sumN (useN s.bx b.ho) s.last.toNat:Nat):=by
 have hbx:=h.bx i b hb;have:=use_le s.bx b.ho (k:=(i-1).toNat) (n:=s.last.toNat) (by omega)
 rw [useN_at hb hbx.2.1,if_pos ⟨rfl,hu⟩] at this;omega
theorem Inv.goneC {K e:Nat} {s:St} (h:Inv K (e+1) s) {i:Int} {b:Bo} (hb:s.bx i=some b) (hu:upQ b.q=true)
  (hca:∀ p,s.pl.a b.ho=some p→p.ca i=none) (hT:s.T (0,i)=none) :
  Inv K e (((s.outOf i).die i).leave b.ho)∧(((s.outOf i).die i).leave b.ho).out.length+(((s.outOf i).die i).leave b.ho).mx.n+1≤2*s.last.toNat:=by
 have hbx:=h.bx i b hb;have hi:b.id=i:=hbx.1;have hmx:=h.mx_of hb hu;have hmp:=h.cmx.pos hmx;have hml:=h.mxle;have hlast:=h.last;have hus:=h.use hb hu;obtain ⟨hH,p,ep,hpb⟩:=h.onP i b hb hu;obtain ⟨g,eg,hgm,hgp,hgl⟩:=h.onF i b hb hu;have hp:=h.pl _ _ ep;have hf:=h.fu _ _ eg;have hfc:=h.fuC _ _ eg;obtain ⟨t,ht⟩:=Option.isSome_iff_exists.1 hH;obtain ⟨d,z,u⟩:=t;have hho:=h.ho _ _ _ _ ht;obtain ⟨b',hb'⟩:∃ b':Bo,(nx 3 b s.now).1=b':=⟨_,rfl⟩;have hb'2:=hb';rw [nx3 hu] at hb'2;have e1:b'.id=b.id:=by rw [←hb'2]
 have e2:b'.fn=b.fn:=by rw [←hb'2]
 have e3:b'.ho=b.ho:=by rw [←hb'2]
 have e4:b'.me=b.me:=by rw [←hb'2]
 have e5:upQ b'.q=false:=by rw [←hb'2];rfl
 have e6:b'.t=s.now:=by rw [←hb'2]
 obtain ⟨s',hs'⟩:∃ s',((s.outOf i).die i).leave b.ho=s':=⟨_,rfl⟩
 have hpl1:((s.outOf i).die i).pl=s.pl.set b.ho { p with bo:=p.bo.del i }:=by
  show (s.outOf i).pl=_;simp only [St.outOf,St.B_of hb,St.P_of ep]
 have hHH:((s.outOf i).die i).H=updZ s.H b.ho (lv d z (u-b.me.toNat)):=by
  show gvH (s.outOf i).H ((s.outOf i).B i).ho ((s.outOf i).B i).me=_;rw [show (s.outOf i).B i=b from St.B_of hb,show (s.outOf i).H=s.H from rfl]
  unfold gvH;rw [ht];dsimp only;rw [if_pos (by omega)]
 have k_now:s'.now=s.now:=by rw [←hs'];unfold St.leave;split <;> rfl
 have k_last:s'.last=s.last:=by rw [←hs'];unfold St.leave;split <;> rfl
 have k_out:s'.out=s.out:=by rw [←hs'];unfold St.leave;split <;> rfl
 have k_tk:s'.tk=s.tk:=by rw [←hs'];unfold St.leave;split <;> rfl
 have k_T:s'.T=s.T:=by rw [←hs'];unfold St.leave;split <;> rfl
 have k_tn:s'.tn=s.tn:=by rw [←hs'];unfold St.leave;split <;> rfl
 have k_mx:s'.mx=s.mx.del i:=by rw [←hs'];unfold St.leave;split <;> rfl
 have k_ah:s'.ah=s.ah.del i:=by rw [←hs'];unfold St.leave;split <;> rfl
 have k_fu:s'.fu=s.fu.set b.fn { g with pi:=g.pi.del i,lo:=g.lo.del i }:=by
  have:(s.outOf i).fu=s.fu.set b.fn { g with pi:=g.pi.del i,lo:=g.lo.del i }:=by
   simp only [St.outOf,St.B_of hb,St.G_of eg]
  rw [←hs'];unfold St.leave;split <;> exact this
 have k_bx:s'.bx=updZ s.bx i (some b'):=by
  have:((s.outOf i).die i).bx=updZ s.bx i (some b'):=by
   show updZ s.bx (nx 3 ((s.outOf i).B i) s.now).1.id (some (nx 3 ((s.outOf i).B i) s.now).1)=_;rw [show (s.outOf i).B i=b from St.B_of hb,hb',e1,hi]
  rw [←hs'];unfold St.leave;split <;> exact this
 have k_H:s'.H=updZ s.H b.ho (lv d z (u-b.me.toNat)):=by
  rw [←hs',←hHH];unfold St.leave;split <;> rfl
 have k_pl:s'.pl=if (lv d z (u-b.me.toNat)).isSome then s.pl.set b.ho { p with bo:=p.bo.del i } else (s.pl.set b.ho { p with bo:=p.bo.del i }).del b.ho:=by
  have e0:(((s.outOf i).die i).H b.ho).isSome=(lv d z (u-b.me.toNat)).isSome:=by rw [hHH,updZ_same]
  rw [←hs'];unfold St.leave;rw [e0]
  split
  ·exact hpl1
  ·show ((s.outOf i).die i).pl.del b.ho=_
   rw [hpl1]
 rw [hs'];clear hs' hpl1 hHH;have at_:∀ j,s'.bx j=if j=i then some b' else s.bx j:=fun j=>by rw [k_bx];exact updZ_at _ _ _ _
 have hD:s'.D=s.D+1:=by
  unfold St.D;rw [k_last,k_mx];unfold Tb.del;dsimp only;rw [hmx];simp only [if_true];omega
 have hmn:s'.mx.n+1=s.mx.n:=by
  rw [k_mx];unfold Tb.del;dsimp only;rw [hmx];simp only [if_true];omega
 have pkey:∀ x q,s'.pl.a x=some q→(x=b.ho∧q={ p with bo:=p.bo.del i }∧(lv d z (u-b.me.toNat)).isSome=true)∨(x≠b.ho∧s.pl.a x=some q):=by
  intro x q hq;rw [k_pl] at hq
  split at hq
  ·rw [Tb.a_set] at hq
   split at hq
   ·cases hq;exact Or.inl ⟨by assumption,rfl,by assumption⟩
   ·exact Or.inr ⟨by assumption,hq⟩
  ·rw [Tb.a_del] at hq
   split at hq
   ·cases hq
   ·rw [Tb.a_set,if_neg (by assumption)] at hq
    exact Or.inr ⟨by assumption,hq⟩
 have pne:∀ x,x≠b.ho→s'.pl.a x=s.pl.a x:=by
  intro x hx;rw [k_pl]
  split
  ·rw [Tb.a_set,if_neg hx]
  ·rw [Tb.a_del,if_neg hx,Tb.a_set,if_neg hx]
 have pat:(lv d z (u-b.me.toNat)).isSome=true→s'.pl.a b.ho=some { p with bo:=p.bo.del i }:=by
  intro q;rw [k_pl,if_pos q,Tb.a_set,if_pos rfl]
 have gat:s'.fu.a b.fn=some { g with pi:=g.pi.del i,lo:=g.lo.del i }:=by rw [k_fu,Tb.a_set,if_pos rfl]
 have gne:∀ y,y≠b.fn→s'.fu.a y=s.fu.a y:=fun y hy=>by rw [k_fu,Tb.a_set,if_neg hy]
 have gkey:∀ y q,s'.fu.a y=some q→(y=b.fn∧q={ g with pi:=g.pi.del i,lo:=g.lo.del i })∨(y≠b.fn∧s.fu.a y=some q):=by
  intro y q hq;rw [k_fu,Tb.a_set] at hq
  split at hq
  ·cases hq;exact Or.inl ⟨by assumption,rfl⟩
  ·exact Or.inr ⟨by assumption,hq⟩
 have sumB:sumN (useN s'.bx b.ho) s.last.toNat+b.me.toNat=sumN (useN s.bx b.ho) s.last.toNat:=by
  have:=sumN_upd (g:=useN s.bx b.ho) (g':=useN s'.bx b.ho) (x:=(i-1).toNat) (fun j hj=>useN_same (by rw [at_,if_neg (by omega)])) (n:=s.last.toNat) (by omega)
  rw [useN_at hb hbx.2.1,if_pos ⟨rfl,hu⟩,useN_at (b:=b') (by rw [at_,if_pos rfl]) hbx.2.1,if_neg (by rw [e5];simp)] at this
  omega
 have sumO:∀ x,x≠b.ho→sumN (useN s'.bx x) s.last.toNat=sumN (useN s.bx x) s.last.toNat:=by
  intro x hx;refine sumN_ext (fun j _=>?_)
  by_cases q:(j:Int)+1=i
  ·have q2:j=(i-1).toNat:=by omega
   rw [q2,useN_at (b:=b') (by rw [at_,if_pos rfl]) hbx.2.1,useN_at hb hbx.2.1,if_neg (by rw [e5];simp),if_neg (fun q=>hx q.1.symm)]
  ·exact useN_same (by rw [at_,if_neg q])
 have lvo:∀ {j:Int} {c:Bo},j≠i→s.bx j=some c→upQ c.q=true→c.ho=b.ho→(lv d z (u-b.me.toNat)).isSome=true:=by
  intro j c hj hc hq hh;have hcx:=h.bx j c hc;have:=use_le s'.bx b.ho (k:=(j-1).toNat) (n:=s.last.toNat) (by omega)
  rw [useN_at (b:=c) (by rw [at_,if_neg hj];exact hc) hcx.2.1,if_pos ⟨hh,hq⟩] at this
  have hne:u-b.me.toNat≠0:=by omega
  unfold lv;rw [if_neg (fun q=>hne q.2)];rfl
 refine ⟨?_,by rw [k_out];have:=h.out;omega⟩
 refine { now:=by rw [k_now];exact h.now,last:=by rw [k_last];exact h.last,cmx:=by rw [k_mx];exact Tb.cdel h.cmx i,cah:=by rw [k_ah];exact Tb.cdel h.cah i,ctk:=by rw [k_tk];exact h.ctk,cfu:=by rw [k_fu];exact Tb.cset h.cfu _ _,cpl:=?_,cT:=by rw [k_T,k_tn];exact h.cT,out:=by rw [k_out,k_last];have:=h.out;omega,bx:=?_,al:=?_,onP:=?_,onF:=?_,bo:=?_,pi:=?_,lo:=?_,ca:=?_,pl:=?_,fu:=?_,fuC:=?_,ho:=?_,T0:=?_,T1:=?_,ah:=?_,tk:=by rw [k_tk];exact h.tk }
 ·rw [k_pl]
  split
  ·exact Tb.cset h.cpl _ _
  ·exact Tb.cdel (Tb.cset h.cpl _ _) _
 ·intro j c hc
  rw [at_] at hc;rw [k_last,k_now]
  split at hc
  ·rename_i hj
   cases hc;rw [hj];have:=h.now;exact ⟨by rw [e1];exact hi,by omega⟩
  ·exact h.bx j c hc
 ·intro j
  rw [k_bx,alB_set,k_mx,Tb.a_del]
  split
  ·rw [e5];rfl
  ·exact h.al j
 ·intro j c hc hq
  rw [at_] at hc
  split at hc
  ·cases hc;rw [e5] at hq;cases hq
  ·rename_i hj
   obtain ⟨h1,q,h2,h3⟩:=h.onP j c hc hq
   by_cases hh:c.ho=b.ho
   ·have hl:=lvo hj hc hq hh
    rw [hh];refine ⟨by rw [k_H,updZ_same];exact hl,_,pat hl,?_⟩
    rw [hh,ep] at h2;cases h2;show ((p.bo.del i).a j).isSome=true;rw [Tb.a_del,if_neg hj];exact h3
   ·exact ⟨by rw [k_H,updZ_ne _ _ hh];exact h1,q,by rw [pne _ hh];exact h2,h3⟩
 ·intro j c hc hq
  rw [at_] at hc
  split at hc
  ·cases hc;rw [e5] at hq;cases hq
  ·rename_i hj
   obtain ⟨q,h1,h2,h3,h4⟩:=h.onF j c hc hq
   by_cases hh:c.fn=b.fn
   ·rw [hh] at h1 ⊢
    rw [eg] at h1;cases h1;refine ⟨_,gat,h2,?_,?_⟩
    ·show ((g.pi.del i).a j).isSome=_;rw [Tb.a_del,if_neg hj];exact h3
    ·show ((g.lo.del i).a j).isSome=_;rw [Tb.a_del,if_neg hj];exact h4
   ·exact ⟨q,by rw [gne _ hh];exact h1,h2,h3,h4⟩
 ·intro x q j hq hj
  rcases pkey _ _ hq with ⟨rfl,rfl,_⟩ | ⟨hx,hq⟩
  ·have hj2:((p.bo.del i).a j).isSome=true:=hj
   rw [Tb.a_del] at hj2
   split at hj2
   ·cases hj2
   ·obtain ⟨c,h1,h2⟩:=h.bo _ p j ep hj2
    exact ⟨c,by rw [at_,if_neg (by assumption)];exact h1,h2⟩
  ·obtain ⟨c,h1,h2,h3⟩:=h.bo _ q j hq hj
   refine ⟨c,?_,h2,h3⟩;rw [at_,if_neg (fun e=>?_)]
   ·exact h1
   ·rw [e,hb] at h1;cases h1;exact hx h3.symm
 ·intro x q j hq hj
  rcases gkey _ _ hq with ⟨rfl,rfl⟩ | ⟨hx,hq⟩
  ·have hj2:((g.pi.del i).a j).isSome=true:=hj
   rw [Tb.a_del] at hj2
   split at hj2
   ·cases hj2
   ·obtain ⟨c,h1,h2⟩:=h.pi _ g j eg hj2
    exact ⟨c,by rw [at_,if_neg (by assumption)];exact h1,h2⟩
  ·obtain ⟨c,h1,h2,h3⟩:=h.pi _ q j hq hj
   refine ⟨c,?_,h2,h3⟩;rw [at_,if_neg (fun e=>?_)]
   ·exact h1
   ·rw [e,hb] at h1;cases h1;exact hx h3.symm
 ·intro x q j hq hj
  rcases gkey _ _ hq with ⟨rfl,rfl⟩ | ⟨hx,hq⟩
  ·have hj2:((g.lo.del i).a j).isSome=true:=hj
   rw [Tb.a_del] at hj2
   split at hj2
   ·cases hj2
   ·obtain ⟨c,h1,h2⟩:=h.lo _ g j eg hj2
    exact ⟨c,by rw [at_,if_neg (by assumption)];exact h1,h2⟩
  ·obtain ⟨c,h1,h2,h3⟩:=h.lo _ q j hq hj
   refine ⟨c,?_,h2,h3⟩;rw [at_,if_neg (fun e=>?_)]
   ·exact h1
   ·rw [e,hb] at h1;cases h1;exact hx h3.symm
 ·intro x q j v hq hv
  have hpx:∃ q0,s.pl.a x=some q0∧q0.ca=q.ca:=by
   rcases pkey _ _ hq with ⟨rfl,rfl,_⟩ | ⟨hx,hq⟩
   ·exact ⟨p,ep,rfl⟩
   ·exact ⟨q,hq,rfl⟩
  obtain ⟨q0,hq0,hqc⟩:=hpx;obtain ⟨h1,h2,c,h3,h4,h5,h6,h7⟩:=h.ca x q0 j v hq0 (by rw [hqc];exact hv)
  have hj:j≠i:=fun e=>by
   rw [e,hb] at h3;cases h3;rw [←h6] at hq0;have:=hca q0 hq0
   rw [hqc,←e,hv] at this;cases this
  exact ⟨h1,by rw [hD,show s.D+1+e+1=s.D+(e+1)+1 by omega];exact h2,c,by rw [at_,if_neg hj];exact h3,h4,h5,h6,h7⟩
 ·intro x q hq
  rw [hD,show s.D+1+e=s.D+(e+1) by omega,k_last]
  rcases pkey _ _ hq with ⟨rfl,rfl,_⟩ | ⟨hx,hq⟩
  ·exact ⟨hp.1,hp.2.1,hp.2.2.1,Tb.cdel hp.2.2.2.1 i,hp.2.2.2.2.1,hp.2.2.2.2.2⟩
  ·exact h.pl x q hq
 ·intro y q hq
  rw [k_now,k_tk]
  rcases gkey _ _ hq with ⟨rfl,rfl⟩ | ⟨_,hq⟩
  ·exact hf
  ·exact h.fu y q hq
 ·intro y q hq
  rcases gkey _ _ hq with ⟨rfl,rfl⟩ | ⟨_,hq⟩
  ·exact ⟨Tb.cdel hfc.1 i,Tb.cdel hfc.2 i⟩
  ·exact h.fuC y q hq
 ·intro x d2 z2 u2 hx
  rw [k_last];rw [k_H,updZ_at] at hx
  split at hx
  ·rename_i hxx
   have hl:(lv d z (u-b.me.toNat)).isSome=true:=by rw [hx];rfl
   unfold lv at hx
   split at hx
   ·cases hx
   ·cases hx
    rw [hxx];exact ⟨hho.1,hho.2.1,hho.2.2.1,hho.2.2.2.1,by omega,by rw [pat hl];rfl,by omega⟩
  ·rename_i hxx
   obtain ⟨h1,h2,h3,h4,h5,h6,h7⟩:=h.ho x d2 z2 u2 hx;exact ⟨h1,h2,h3,h4,h5,by rw [pne _ hxx];exact h6,by rw [sumO x hxx];exact h7⟩
 ·intro j t2 ht2
  rw [k_T] at ht2;obtain ⟨c,h1,h2⟩:=h.T0 j t2 ht2;refine ⟨c,?_,h2⟩;rw [at_,if_neg (fun e=>?_)]
  ·exact h1
  ·rw [e,hT] at ht2;cases ht2
 ·intro k t2 hk hne
  rw [k_T] at hk;obtain ⟨h1,h2⟩:=h.T1 k t2 hk hne;refine ⟨h1,?_⟩
  by_cases q:k.2=b.fn
  ·rw [q,gat];rfl
  ·rw [gne _ q];exact h2
 ·intro j t2 hj
  rw [k_ah,Tb.a_del] at hj
  split at hj
  ·cases hj
  ·rename_i hne
   rw [k_mx,Tb.a_del,if_neg hne];exact h.ah j t2 hj
theorem Inv.unused {K e:Nat} {s:St} (h:Inv K e s):Unused s (s.last+1):=by
 have hb:s.bx (s.last+1)=none:=by
  cases q:s.bx (s.last+1) with
  | none=>rfl
  | some b=>have:=h.bx _ b q;omega
 have no:∀ o:Option Unit,(o.isSome=true→False)→o=none:=fun o q=>by
  cases o with
  | none=>rfl
  | some u=>exact (q rfl).elim
 refine ⟨hb,no _ (fun q=>?_),fun x p hp=>no _ (fun q=>?_),fun f g hg=>⟨no _ (fun q=>?_),no _ (fun q=>?_)⟩⟩
 ·obtain ⟨b,h1,_⟩:=h.alive q;rw [hb] at h1;cases h1
 ·obtain ⟨b,h1,_⟩:=h.bo x p _ hp q;rw [hb] at h1;cases h1
 ·obtain ⟨b,h1,_⟩:=h.pi f g _ hg q;rw [hb] at h1;cases h1
 ·obtain ⟨b,h1,_⟩:=h.lo f g _ hg q;rw [hb] at h1;cases h1
theorem Inv.boot {K e:Nat} {s:St} (h:Inv (K+1) e s) {f x:Int} {g:Fu} (eg:s.fu.a f=some g) (hu:upB s.H x=true) (hm:g.mem≤fr s.H x):Inv K e (s.boot f x):=by
 have U:=h.unused;have hlast:=h.last;have hf:=h.fu _ _ eg;have hfc:=h.fuC _ _ eg
 obtain ⟨z,u,hH⟩:∃ z u,s.H x=some (false,z,u):=by
  unfold upB at hu
  cases q:s.H x with
  | none=>rw [q] at hu;cases hu
  | some t =>
   obtain ⟨d,z,u⟩:=t;rw [q] at hu
   cases d with
   | false=>exact ⟨z,u,rfl⟩
   | true=>cases hu
 have hfr:fr s.H x=(z:Int)-(u:Int):=by unfold fr;rw [hH]
 rw [hfr] at hm;have hho:=h.ho _ _ _ _ hH;obtain ⟨p,ep⟩:=Option.isSome_iff_exists.1 hho.2.2.2.2.2.1;have hp:=h.pl _ _ ep;obtain ⟨i,hi⟩:∃ i,s.last+1=i:=⟨_,rfl⟩;obtain ⟨b,hb⟩:∃ b:Bo,⟨i,f,x,g.mem,.boot,false,s.now⟩=b:=⟨_,rfl⟩;have e1:b.id=i:=by rw [←hb]
 have e2:b.fn=f:=by rw [←hb]
 have e3:b.ho=x:=by rw [←hb]
 have e4:b.me=g.mem:=by rw [←hb]
 have e5:b.q=.boot:=by rw [←hb]
 have e5':upQ b.q=true:=by rw [e5];rfl
 have e6:b.p=false:=by rw [←hb]
 have e7:b.t=s.now:=by rw [←hb]
 obtain ⟨s',hs'⟩:∃ s',s.boot f x=s':=⟨_,rfl⟩;have k_now:s'.now=s.now:=by rw [←hs'];rfl
 have k_last:s'.last=i:=by rw [←hs',←hi];rfl
 have k_out:s'.out.length=s.out.length+1:=by rw [←hs'];show (s.out ++ [_]).length=_;simp
 have k_tk:s'.tk=s.tk:=by rw [←hs'];rfl
 have k_T:s'.T=s.T:=by rw [←hs'];rfl
 have k_tn:s'.tn=s.tn:=by rw [←hs'];rfl
 have k_mx:s'.mx=s.mx.set i ():=by rw [←hs',←hi];rfl
 have k_ah:s'.ah=s.ah:=by rw [←hs'];rfl
 have k_fu:s'.fu=s.fu.set f { g with lo:=g.lo.set i () }:=by
  rw [←hs',←hi];show s.fu.set f _=_;rw [St.G_of eg]
 have k_pl:s'.pl=s.pl.set x { p with bo:=p.bo.set i () }:=by
  rw [←hs',←hi];show s.pl.set x _=_;rw [St.P_of ep]
 have k_bx:s'.bx=updZ s.bx i (some b):=by
  rw [←hs',←hb,←hi];show updZ s.bx _ (some ⟨_,_,_,(s.G f).mem,_,_,_⟩)=_;rw [St.G_of eg]
 have k_H:s'.H=updZ s.H x (some (false,z,u+g.mem.toNat)):=by
  rw [←hs'];show tkH s.H x (s.G f).mem=_;rw [St.G_of eg];unfold tkH;rw [hH];dsimp only;rw [if_pos (by omega)]
 rw [hs'];clear hs';rw [hi] at U;have mxn:s'.mx.n=s.mx.n+1:=by rw [k_mx];unfold Tb.set;dsimp only;rw [U.mx];rfl
 have hml:=h.mxle;have hln:i.toNat=s.last.toNat+1:=by omega
 have hD:s'.D=s.D:=by unfold St.D;rw [k_last,mxn,hln];omega
 have at_:∀ j,s'.bx j=if j=i then some b else s.bx j:=fun j=>by rw [k_bx];exact updZ_at _ _ _ _
 have bne:∀ {j c},s.bx j=some c→j≠i:=fun {j c} hc e=>by rw [e,U.bx] at hc;cases hc
 have pkey:∀ y q,s'.pl.a y=some q→(y=x∧q={ p with bo:=p.bo.set i () })∨(y≠x∧s.pl.a y=some q):=by
  intro y q hq;rw [k_pl,Tb.a_set] at hq
  split at hq
  ·cases hq;exact Or.inl ⟨by assumption,rfl⟩
  ·exact Or.inr ⟨by assumption,hq⟩
 have pat:s'.pl.a x=some { p with bo:=p.bo.set i () }:=by rw [k_pl,Tb.a_set,if_pos rfl]
 have pne:∀ y,y≠x→s'.pl.a y=s.pl.a y:=fun y hy=>by rw [k_pl,Tb.a_set,if_neg hy]
 have gat:s'.fu.a f=some { g with lo:=g.lo.set i () }:=by rw [k_fu,Tb.a_set,if_pos rfl]
 have gne:∀ y,y≠f→s'.fu.a y=s.fu.a y:=fun y hy=>by rw [k_fu,Tb.a_set,if_neg hy]
 have gkey:∀ y q,s'.fu.a y=some q→(y=f∧q={ g with lo:=g.lo.set i () })∨(y≠f∧s.fu.a y=some q):=by
  intro y q hq;rw [k_fu,Tb.a_set] at hq
  split at hq
  ·cases hq;exact Or.inl ⟨by assumption,rfl⟩
  ·exact Or.inr ⟨by assumption,hq⟩
 have sumE:∀ y,sumN (useN s'.bx y) s.last.toNat=sumN (useN s.bx y) s.last.toNat:=fun y=>sumN_ext (fun j hj=>useN_same (by rw [at_,if_neg (by omega)]))
 have un:∀ y,useN s'.bx y s.last.toNat=if y=x then g.mem.toNat else 0:=fun y=>by
  have:=useN_at (bx:=s'.bx) (x:=y) (b:=b) (by rw [at_,if_pos rfl]) (show 1≤i by omega)
  rw [show (i-1).toNat=s.last.toNat by omega,e3,e4] at this
  rw [this]
  by_cases q:y=x
  ·rw [if_pos q,if_pos ⟨q.symm,e5'⟩]
  ·rw [if_neg q,if_neg (fun t=>q t.1.symm)]
 have spE:∀ y q,s.pl.a y=some q→sumN (spN q.ca) i.toNat=sumN (spN q.ca) s.last.toNat:=fun y q hq=>by
  rw [hln];show sumN (spN q.ca) s.last.toNat+spN q.ca s.last.toNat=_
  have:spN q.ca s.last.toNat=0:=by
   unfold spN;rw [show ((s.last.toNat:Nat):Int)+1=i by omega]
   cases hv:q.ca i with
   | none=>rfl
   | some v=>obtain ⟨_,_,c,hc,_⟩:=h.ca y q i v hq hv;exact absurd rfl (bne hc)
  omega
 refine { now:=by rw [k_now];exact h.now,last:=by rw [k_last];omega,cmx:=by rw [k_mx];exact Tb.cset h.cmx i (),cah:=by rw [k_ah];exact h.cah,ctk:=by rw [k_tk];exact h.ctk,cfu:=by rw [k_fu];exact Tb.cset h.cfu _ _,cpl:=by rw [k_pl];exact Tb.cset h.cpl _ _,cT:=by rw [k_T,k_tn];exact h.cT,out:=by rw [k_out,mxn,k_last,hln];have:=h.out;omega,bx:=?_,al:=?_,onP:=?_,onF:=?_,bo:=?_,pi:=?_,lo:=?_,ca:=?_,pl:=?_,fu:=?_,fuC:=?_,ho:=?_,T0:=?_,T1:=?_,ah:=?_,tk:=by rw [k_tk];exact h.tk }
 ·intro j c hc
  rw [at_] at hc;rw [k_last,k_now]
  split at hc
  ·rename_i hj
   cases hc;rw [hj];have:=h.now;exact ⟨e1,by omega⟩
  ·have:=h.bx j c hc;exact ⟨this.1,by omega⟩
 ·intro j
  rw [k_bx,alB_set,k_mx,Tb.a_set]
  split
  ·rw [e5'];rfl
  ·exact h.al j
 ·intro j c hc hq
  rw [at_] at hc
  split at hc
  ·rename_i hj
   cases hc;rw [e3,hj];exact ⟨by rw [k_H,updZ_same];rfl,_,pat,by show ((p.bo.set i ()).a i).isSome=true;rw [Tb.set_at];rfl⟩
  ·rename_i hj
   obtain ⟨h1,q,h2,h3⟩:=h.onP j c hc hq
   by_cases hh:c.ho=x
   ·rw [hh]
    refine ⟨by rw [k_H,updZ_same];rfl,_,pat,?_⟩
    rw [hh,ep] at h2;cases h2;show ((p.bo.set i ()).a j).isSome=true;rw [Tb.a_set,if_neg hj];exact h3
   ·exact ⟨by rw [k_H,updZ_ne _ _ hh];exact h1,q,by rw [pne _ hh];exact h2,h3⟩
 ·intro j c hc hq
  rw [at_] at hc
  split at hc
  ·rename_i hj
   cases hc;rw [e2,e4,e6,hj]
   have:g.pi.a i=none:=(U.fu f g eg).1
   exact ⟨_,gat,rfl,by show (g.pi.a i).isSome=false;rw [this];rfl,by show ((g.lo.set i ()).a i).isSome=_;rw [Tb.set_at];rfl⟩
  ·rename_i hj
   obtain ⟨q,h1,h2,h3,h4⟩:=h.onF j c hc hq
   by_cases hh:c.fn=f
   ·rw [hh] at h1 ⊢
    rw [eg] at h1;cases h1;exact ⟨_,gat,h2,h3,by show ((g.lo.set i ()).a j).isSome=_;rw [Tb.a_set,if_neg hj];exact h4⟩
   ·exact ⟨q,by rw [gne _ hh];exact h1,h2,h3,h4⟩
 ·intro y q j hq hj
  rcases pkey _ _ hq with ⟨rfl,rfl⟩ | ⟨hx,hq⟩
  ·have hj2:((p.bo.set i ()).a j).isSome=true:=hj
   rw [Tb.a_set] at hj2
   split at hj2
   ·rename_i hji;exact ⟨b,by rw [at_,if_pos hji],e5',e3⟩
   ·obtain ⟨c,h1,h2⟩:=h.bo _ p j ep hj2
    exact ⟨c,by rw [at_,if_neg (by assumption)];exact h1,h2⟩
  ·obtain ⟨c,h1,h2,h3⟩:=h.bo _ q j hq hj
   exact ⟨c,by rw [at_,if_neg (bne h1)];exact h1,h2,h3⟩
 ·intro y q j hq hj
  have hpx:∃ q0,s.fu.a y=some q0∧q0.pi=q.pi:=by
   rcases gkey _ _ hq with ⟨rfl,rfl⟩ | ⟨hx,hq⟩
   ·exact ⟨g,eg,rfl⟩
   ·exact ⟨q,hq,rfl⟩
  obtain ⟨q0,hq0,hqc⟩:=hpx;obtain ⟨c,h1,h2,h3⟩:=h.pi y q0 j hq0 (by rw [hqc];exact hj)
  exact ⟨c,by rw [at_,if_neg (bne h1)];exact h1,h2,h3⟩
 ·intro y q j hq hj
  rcases gkey _ _ hq with ⟨rfl,rfl⟩ | ⟨hx,hq⟩
  ·have hj2:((g.lo.set i ()).a j).isSome=true:=hj
   rw [Tb.a_set] at hj2
   split at hj2
   ·rename_i hji;exact ⟨b,by rw [at_,if_pos hji],e5',e2⟩
   ·obtain ⟨c,h1,h2⟩:=h.lo _ g j eg hj2
    exact ⟨c,by rw [at_,if_neg (by assumption)];exact h1,h2⟩
  ·obtain ⟨c,h1,h2,h3⟩:=h.lo _ q j hq hj
   exact ⟨c,by rw [at_,if_neg (bne h1)];exact h1,h2,h3⟩
 ·intro y q j v hq hv
  have hpx:∃ q0,s.pl.a y=some q0∧q0.ca=q.ca:=by
   rcases pkey _ _ hq with ⟨rfl,rfl⟩ | ⟨hx,hq⟩
   ·exact ⟨p,ep,rfl⟩
   ·exact ⟨q,hq,rfl⟩
  obtain ⟨q0,hq0,hqc⟩:=hpx;obtain ⟨h1,h2,c,h3,h4⟩:=h.ca y q0 j v hq0 (by rw [hqc];exact hv)
  exact ⟨h1,by rw [hD];exact h2,c,by rw [at_,if_neg (bne h3)];exact h3,h4⟩
 ·intro y q hq
  rw [hD,k_last]
  rcases pkey _ _ hq with ⟨rfl,rfl⟩ | ⟨hx,hq⟩
  ·exact ⟨hp.1,hp.2.1,hp.2.2.1,Tb.cset hp.2.2.2.1 i (),hp.2.2.2.2.1,by show p.sp=((sumN (spN p.ca) i.toNat:Nat):Int);rw [spE _ _ ep];exact hp.2.2.2.2.2⟩
  ·have:=h.pl y q hq;rw [spE _ _ hq];exact this
 ·intro y q hq
  rw [k_now,k_tk]
  rcases gkey _ _ hq with ⟨rfl,rfl⟩ | ⟨_,hq⟩
  ·exact hf
  ·exact h.fu y q hq
 ·intro y q hq
  rcases gkey _ _ hq with ⟨rfl,rfl⟩ | ⟨_,hq⟩
  ·exact ⟨hfc.1,Tb.cset hfc.2 i ()⟩
  ·exact h.fuC y q hq
 ·intro y d2 z2 u2 hx
  rw [k_last,hln];show _∧_∧_∧_∧_∧_∧u2=sumN (useN s'.bx y) s.last.toNat+useN s'.bx y s.last.toNat;rw [sumE,un];rw [k_H,updZ_at] at hx
  split at hx
  ·rename_i hxx
   cases hx
   rw [if_pos hxx,hxx];exact ⟨hho.1,hho.2.1,hho.2.2.1,hho.2.2.2.1,by omega,by rw [pat];rfl,by omega⟩
  ·rename_i hxx
   obtain ⟨h1,h2,h3,h4,h5,h6,h7⟩:=h.ho y d2 z2 u2 hx;rw [if_neg hxx];exact ⟨h1,h2,h3,h4,h5,by rw [pne _ hxx];exact h6,h7⟩
 ·intro j t2 ht2
  rw [k_T] at ht2;obtain ⟨c,h1,h2⟩:=h.T0 j t2 ht2;exact ⟨c,by rw [at_,if_neg (bne h1)];exact h1,h2⟩
 ·intro k t2 hk hne
  rw [k_T] at hk;obtain ⟨h1,h2⟩:=h.T1 k t2 hk hne;refine ⟨h1,?_⟩
  by_cases q:k.2=f
  ·rw [q,gat];rfl
  ·rw [gne _ q];exact h2
 ·intro j t2 hj
  rw [k_ah] at hj;obtain ⟨h1,h2⟩:=h.ah j t2 hj;refine ⟨?_,h2⟩;rw [k_mx,Tb.a_set]
  split
  ·rfl
  ·exact h1
theorem Inv.tnle {K e:Nat} {s:St} (h:Inv K e s):s.tn≤64+s.last.toNat:=by
 have hlast:=h.last;obtain ⟨l,l1,l2,l3⟩:=h.cT
 have hinj:∀ k ∈ l,(k.1=0∧1≤k.2∧k.2≤s.last)∨(k.1=1∧0≤k.2∧k.2<64):=fun k hk=>by
  obtain ⟨t,ht⟩:=Option.isSome_iff_exists.1 ((l3 k).1 hk)
  by_cases q:k.1=0
  ·obtain ⟨k1,k2⟩:=k
   subst q;obtain ⟨b,hb,_⟩:=h.T0 k2 t ht;have:=h.bx k2 b hb
   exact Or.inl ⟨rfl,by show 1≤k2;omega,by show k2≤s.last;omega⟩
  ·obtain ⟨q1,q2⟩:=h.T1 k t ht q
   obtain ⟨g,hg⟩:=Option.isSome_iff_exists.1 q2;have:=h.fu _ g hg
   exact Or.inr ⟨q1,by omega,by omega⟩
 let F:HT.K→Int:=fun k=>if k.1=0 then k.2 else -k.2
 have hnd:(l.map F).Nodup:=by
  rw [List.nodup_iff_pairwise_ne,List.pairwise_map];refine ((List.nodup_iff_pairwise_ne.1 l1).imp_of_mem ?_);intro a b ha hb hne he;refine hne ?_;obtain ⟨a1,a2⟩:=a;obtain ⟨b1,b2⟩:=b;have ha:=hinj _ ha;have hb:=hinj _ hb;simp only [F] at he ha hb
  rcases ha with ⟨ha,ha1,ha2⟩ | ⟨ha,ha1,ha2⟩ <;> rcases hb with ⟨hb,hb1,hb2⟩ | ⟨hb,hb1,hb2⟩ <;> subst ha <;> subst hb <;> simp at he <;> first | omega | (rw [he])
 have:=nodup_le (l.map F) ((List.range (64+s.last.toNat)).map (fun (j:Nat)=>(j:Int)-63)) hnd (fun i hi=>by
  obtain ⟨k,hk,rfl⟩:=List.mem_map.1 hi;refine List.mem_map.2 ⟨(F k+63).toNat,?_,?_⟩
  ·have:=hinj k hk
   simp only [F,List.mem_range]
   split <;> omega
  ·have:=hinj k hk
   simp only [F]
   split <;> omega)
 simp at this;omega
theorem Inv.bd {K e:Nat} {s:St} (h:Inv K e s) (he:e≤1000):Bd s:=by
 have hlast:=h.last;have hml:=h.mxle
 have lle:∀ {α:Type} {a:Int→Option α} {n:Nat},Cnt a n→(∀ i,(a i).isSome=true→∃ b,s.bx i=some b)→n≤s.last.toNat:=fun hc hr =>
  hc.le 1 _ (fun i hi=>by obtain ⟨b,hb⟩:=hr i hi;have:=h.bx i b hb;omega)
 have hah:s.ah.n≤s.last.toNat:=lle h.cah (fun i hi=>by
  obtain ⟨t,ht⟩:=Option.isSome_iff_exists.1 hi;obtain ⟨b,hb,_⟩:=h.alive (h.ah i t ht).1;exact ⟨b,hb⟩)
 have htk:s.tk.n≤16:=h.ctk.le 0 16 (fun i hi=>by
  obtain ⟨t,ht⟩:=Option.isSome_iff_exists.1 hi;have:=h.tk i t ht;omega)
 have hfu:s.fu.n≤64:=h.cfu.le 0 64 (fun i hi=>by
  obtain ⟨t,ht⟩:=Option.isSome_iff_exists.1 hi;have:=h.fu i t ht;omega)
 have hpl:s.pl.n≤32:=h.cpl.le 0 32 (fun i hi=>by
  obtain ⟨t,ht⟩:=Option.isSome_iff_exists.1 hi;have:=h.pl i t ht;omega)
 have hT:s.tn≤64+s.last.toNat:=h.tnle;have hout:=h.out;have hD:s.D≤s.last.toNat:=by unfold St.D;omega
 refine ⟨h.now,by omega,by omega,by omega,by omega,by omega,by omega,by omega,by omega,fun i b hb=>?_,fun f g hg=>?_,fun x p hp=>?_⟩
 ·have:=h.bx i b hb;have:=h.now;omega
 ·have h1:=h.fu f g hg
  obtain ⟨h2,h3⟩:=h.fuC f g hg;have a1:=lle h2 (fun i hi=>by obtain ⟨b,hb,_⟩:=h.pi f g i hg hi;exact ⟨b,hb⟩)
  have a2:=lle h3 (fun i hi=>by obtain ⟨b,hb,_⟩:=h.lo f g i hg hi;exact ⟨b,hb⟩)
  obtain ⟨h4,h5,h6,h7,h8,h9,h10,h11,h12,h13,h14,h15,h16,h17,h18,h19,_⟩:=h1;omega
 ·obtain ⟨h1,h2,h3,h4,h5,h6⟩:=h.pl x p hp
  have a1:=lle h3 (fun i hi=>by
   obtain ⟨v,hv⟩:=Option.isSome_iff_exists.1 hi;obtain ⟨_,_,b,hb,_⟩:=h.ca x p i v hp hv;exact ⟨b,hb⟩)
  have a2:=lle h4 (fun i hi=>by obtain ⟨b,hb,_⟩:=h.bo x p i hp hi;exact ⟨b,hb⟩)
  have a3:p.cl≤mega*536871912:=Nat.le_trans h5 (Nat.mul_le_mul_left _ (by omega))
  have a4:sumN (spN p.ca) s.last.toNat≤s.last.toNat*4096:=sumN_bound (fun j=>by
   unfold spN
   cases q:p.ca ((j:Int)+1) with
   | none=>simp
   | some v =>
    obtain ⟨_,_,b,hb,_,_,_,hm⟩:=h.ca x p _ v hp q;have:=h.bx _ b hb
    show v.2.1≤4096;omega) _
  unfold mega at a3;refine ⟨h1,h2,by omega,by omega,?_,?_,by omega⟩ <;> rw [h6] <;> omega
theorem Inv.give {K e:Nat} {s:St} (h:Inv K e s) (ho:s.out.length+s.mx.n+1≤2*s.last.toNat) (c:Bool) (b:Bo):Inv K e (s.give c b) :=
 { h with out:=by show (s.out ++ [_]).length+s.mx.n≤_;simp;show s.out.length+1+s.mx.n≤2*s.last.toNat;omega }
theorem Inv.clrOut {K e:Nat} {s:St} (h:Inv K e s):Inv K e { s with out:=[] } :=
 { h with out:=by show ([]:List Cmd).length+s.mx.n≤2*s.last.toNat;have:=h.mxle;simp;omega }
theorem Inv.endC {K e:Nat} {s:St} (h:Inv K e s) {f:Int} {g:Fu} (eg:s.fu.a f=some g):Inv K e (s.endC f):=by
 unfold St.endC;rw [St.G_of eg];obtain ⟨_,_,a1,a2,_,_,a3,a4,a5,a6,a7,a8,_,_,a9,a10,a11⟩:=h.fu f g eg;have h2:Inv K e ({ s with F:=endF s.F f }:St):={ h with }
 have hn:=h.now;exact h2.setG (g:=g) eg rfl rfl rfl ⟨a1,a2,a3,a4,a5,a6,a7,a8,by show -1≤s.now;omega,Int.le_refl s.now,a9,a10,a11⟩
theorem Inv.gone {K e:Nat} {s:St} (h:Inv K (e+1) s) {i:Int} {b:Bo} (hb:s.bx i=some b) (hu:upQ b.q=true):Inv K e (s.gone i)∧(s.gone i).out.length+(s.gone i).mx.n+1≤2*(s.gone i).last.toNat:=by
 obtain ⟨g,eg,_⟩:=h.onF i b hb hu;have h1:=h.hold hb hu;unfold St.gone;rw [St.B_of hb];dsimp only
 have fin:∀ s2:St,Inv K (e+1) s2→s2.bx i=some b→s2.T=(s.hold i).T→s2.pl=(s.hold i).pl→s2.last=s.last →
   Inv K e (((s2.outOf i).die i).leave b.ho)∧(((s2.outOf i).die i).leave b.ho).out.length+(((s2.outOf i).die i).leave b.ho).mx.n+1≤2*(((s2.outOf i).die i).leave b.ho).last.toNat:=by
  intro s2 h2 hb2 hT hP hL;obtain ⟨a1,a2⟩:=h2.goneC hb2 hu (fun p hp=>by rw [hP] at hp;exact hold_ca hb p hp) (by rw [hT];exact hold_T)
  refine ⟨a1,?_⟩;have:(((s2.outOf i).die i).leave b.ho).last=s2.last:=by unfold St.leave;split <;> rfl
  rw [this];exact a2
 cases hr:b.q.runs with
 | true=>exact fin _ (h1.endC (f:=b.fn) (g:=g) eg) hb rfl rfl rfl
 | false=>exact fin _ h1 hb rfl rfl rfl
theorem Inv.killE {K e:Nat} {s:St} (h:Inv K (e+1) s) {i:Int} {b:Bo} (hb:s.bx i=some b) (hu:upQ b.q=true):Inv K e (s.kill i):=by
 obtain ⟨h1,h2⟩:=h.gone hb hu;exact h1.give h2 _ _
theorem Inv.kill {K e:Nat} {s:St} (h:Inv K e s) {i:Int} {b:Bo} (hb:s.bx i=some b) (hu:upQ b.q=true):Inv K e (s.kill i):=(h.mono (Nat.le_refl _) (Nat.le_succ e)).killE hb hu
theorem Inv.put {K e:Nat} {s:St} (h:Inv K e s) {i:Int} {b:Bo} (hb:s.bx i=some b) (hq:b.q=.warm) (hp:b.p=false) (hca:∀ p,s.pl.a b.ho=some p→p.ca i=none) (t:Int) :
  Inv K e ((s.setP b.ho (putP (s.P b.ho) b (s.G b.fn))).setT (0,i) t):=by
 have hu:upQ b.q=true:=by rw [hq];rfl
 obtain ⟨_,p,ep,_⟩:=h.onP i b hb hu;obtain ⟨g,eg,_⟩:=h.onF i b hb hu;rw [St.P_of ep,St.G_of eg];have hbx:=h.bx i b hb;have hpp:=h.pl _ _ ep;have hf:=h.fu _ _ eg;have hn:=hca p ep;have hi:b.id=i:=hbx.1;obtain ⟨v,hv⟩:∃ v:HR.V,(p.cl*b.me.toNat+g.often.toNat*g.cost.toNat,b.me.toNat,b.id)=v:=⟨_,rfl⟩;have hca':(putP p b g).ca=updZ p.ca i (some v):=by rw [←hv,←hi];rfl
 have hcn:(putP p b g).cn=p.cn+1:=by
  show (if (p.ca b.id).isSome then p.cn else p.cn+1)=_
  rw [hi,hn];rfl
 have hmul:g.often.toNat*g.cost.toNat≤mega:=by
  have:=Nat.mul_le_mul (show g.often.toNat≤1000 by omega) (show g.cost.toNat≤1000 by omega)
  exact this
 refine (h.setP (p':=putP p b g) ep rfl ?_ ?_ hpp.2.2.2.2.1 ?_).setT0 (b:=b) hb hq hp t
 ·intro j u hj
  rw [hca',updZ_at] at hj
  split at hj
  ·rename_i hji
   cases hj
   rw [←hv,hji];refine ⟨hi,?_,b,hb,hq,hp,rfl,rfl⟩;show p.cl*b.me.toNat+g.often.toNat*g.cost.toNat≤mega*(s.D+e+1)*b.me.toNat;have a1:p.cl*b.me.toNat≤mega*(s.D+e)*b.me.toNat:=Nat.mul_le_mul_right _ hpp.2.2.2.2.1;have a2:mega*1≤mega*b.me.toNat:=Nat.mul_le_mul_left _ (by omega)
   have a3:mega*(s.D+e+1)*b.me.toNat=mega*(s.D+e)*b.me.toNat+mega*b.me.toNat:=by rw [Nat.mul_add,Nat.add_mul,Nat.mul_one]
   omega
  ·exact h.ca _ _ j u ep hj
 ·rw [hcn]
  have:=hpp.2.2.1.set i (a':=(putP p b g).ca) (by rw [hca',updZ_same];rfl) (fun j e=>by rw [hca',updZ_ne _ _ e])
  rw [hn] at this;exact this
 ·have:=sp_in (ca:=p.ca) (ca':=(putP p b g).ca) (i:=i) (n:=s.last.toNat) (v:=v) (by rw [hca',updZ_same]) hbx.2.1 (by omega) hn (fun j e=>by rw [hca',updZ_ne _ _ e])
  show p.sp+b.me=_;rw [this,hpp.2.2.2.2.2,←hv];show _=(((_:Nat)+b.me.toNat:Nat):Int);omega
theorem Inv.idle {K e:Nat} {s:St} (h:Inv K e s) {i:Int} {b:Bo} (hb:s.bx i=some b) (hq:b.q=.warm) (hp:b.p=false) (hca:∀ p,s.pl.a b.ho=some p→p.ca i=none) (t:Int):Inv K e (s.idle i t):=by
 unfold St.idle
 split
 ·exact h.kill hb (by rw [hq];rfl)
 ·rw [St.B_of hb]
  exact h.put hb hq hp hca t
theorem setP_at' (s:St) (h:Int) (p:Pl):(s.setP h p).pl.a h=some p:=Tb.set_at _ _ _
theorem setG_at' (s:St) (f:Int) (g:Fu):(s.setG f g).fu.a f=some g:=Tb.set_at _ _ _
theorem warm_up {q:Ph} (h:q=.warm):upQ q=true:=by rw [h];rfl
theorem Inv.evict {K e:Nat} {s:St} (h:Inv K e s) {x:Int} {p:Pl} (ep:s.pl.a x=some p) {i:Int} {v:HR.V} (hv:p.ca i=some v):Inv K (e+1) (s.setP x (evictP p i v (s.B i).me)):=by
 have h1:=h.mono (Nat.le_refl _) (Nat.le_succ e);have hp:=h1.pl _ _ ep;obtain ⟨hid,hle,b,hb,hq,hbp,hbh,hm⟩:=h.ca _ _ i v ep hv;have hbx:=h.bx i b hb;have hlast:=h.last;rw [St.B_of hb];have key:∀ j,(evictP p i v b.me).ca j=if j=i then none else p.ca j:=fun j=>updZ_at _ _ _ _
 refine h1.setP ep rfl ?_ ?_ ?_ ?_
 ·intro j u hu
  rw [key] at hu
  split at hu
  ·cases hu
  ·exact h1.ca _ _ j u ep hu
 ·have:=hp.2.2.1.del i (a':=(evictP p i v b.me).ca) (by rw [key,if_pos rfl];rfl) (fun j e=>by rw [key,if_neg e])
  rw [hv] at this;exact this
 ·show max p.cl (v.1 / v.2.1)≤_
  refine Nat.max_le.2 ⟨hp.2.2.2.2.1,?_⟩;have hpos:0<v.2.1:=by omega
  exact Nat.div_le_of_le_mul (by rw [Nat.mul_comm];exact hle)
 ·have:=sp_out (ca:=p.ca) (ca':=(evictP p i v b.me).ca) (i:=i) (n:=s.last.toNat) hv hbx.2.1 (by omega) (by rw [key,if_pos rfl]) (fun j e=>by rw [key,if_neg e])
  show p.sp-b.me=_;rw [hp.2.2.2.2.2];omega
theorem Inv.evkill {K e:Nat} {s:St} (h:Inv K e s) {x:Int} {p:Pl} (ep:s.pl.a x=some p) {i:Int} {v:HR.V} (hv:p.ca i=some v):Inv K e ((s.setP x (evictP p i v (s.B i).me)).kill i):=by
 obtain ⟨_,_,b,hb,hq,_⟩:=h.ca _ _ i v ep hv;exact (h.evict ep hv).killE (b:=b) hb (warm_up hq)
theorem lt_trans' {a b c:HR.V} (h1:HR.lt b a=false) (h2:HR.lt c b=false) (ha:0<a.2.1) (hb:0<b.2.1) (hc:0<c.2.1):HR.lt c a=false:=by
 unfold HR.lt at *;simp only [decide_eq_false_iff_not,not_or,not_and,Nat.not_lt,Int.not_lt] at *;obtain ⟨a1,a2,a3⟩:=a;obtain ⟨b1,b2,b3⟩:=b;obtain ⟨c1,c2,c3⟩:=c;dsimp only at *;obtain ⟨h1,h1'⟩:=h1;obtain ⟨h2,h2'⟩:=h2
 have k:a1*c2*b2≤c1*a2*b2:=by
  calc a1*c2*b2=a1*b2*c2:=by rw [Nat.mul_right_comm]
   _≤b1*a2*c2:=Nat.mul_le_mul_right _ h1
   _=b1*c2*a2:=by rw [Nat.mul_right_comm]
   _≤c1*b2*a2:=Nat.mul_le_mul_right _ h2
   _=c1*a2*b2:=by rw [Nat.mul_right_comm]
 refine ⟨Nat.le_of_mul_le_mul_right k hb,fun e=>?_⟩
 have k1:b1*a2*c2=a1*b2*c2:=by
  refine Nat.le_antisymm ?_ (Nat.mul_le_mul_right _ h1)
  calc b1*a2*c2=b1*c2*a2:=by rw [Nat.mul_right_comm]
   _≤c1*b2*a2:=Nat.mul_le_mul_right _ h2
   _=c1*a2*b2:=by rw [Nat.mul_right_comm]
   _=a1*c2*b2:=by rw [e]
   _=a1*b2*c2:=by rw [Nat.mul_right_comm]
 have e1:b1*a2=a1*b2:=Nat.eq_of_mul_eq_mul_right hc k1
 have k2:c1*b2*a2=b1*c2*a2:=by
  calc c1*b2*a2=c1*a2*b2:=by rw [Nat.mul_right_comm]
   _=a1*c2*b2:=by rw [e]
   _=a1*b2*c2:=by rw [Nat.mul_right_comm]
   _=b1*a2*c2:=by rw [e1]
   _=b1*c2*a2:=by rw [Nat.mul_right_comm]
 have e2:c1*b2=b1*c2:=Nat.eq_of_mul_eq_mul_right ha k2;have:=h1' e1
 have:=h2' e2
 omega
theorem lt_tot' {a b:HR.V} (h:HR.lt a b=true):HR.lt b a=false:=by
 unfold HR.lt at *;simp only [decide_eq_false_iff_not,not_or,not_and,Nat.not_lt,Int.not_lt,decide_eq_true_eq] at *;omega
theorem lst_ex:∀ (l:List Int) (ca:Int→Option HR.V),l≠[]→(∀ i ∈ l,∃ v,ca i=some v∧0<v.2.1)→∃ i v,i ∈ l∧ca i=some v∧∀ j ∈ l,∀ u,ca j=some u→HR.lt u v=false
 | [],_,h,_=>absurd rfl h
 | [a],ca,_,h=>by
  obtain ⟨v,hv,_⟩:=h a (by simp)
  refine ⟨a,v,by simp,hv,fun j hj u hu=>?_⟩
  simp at hj;subst hj;rw [hv] at hu;cases hu;unfold HR.lt;simp
 | a :: b :: l,ca,_,h=>by
  obtain ⟨i,v,hi,hv,hl⟩:=lst_ex (b :: l) ca (by simp) (fun i hi=>h i (List.mem_cons_of_mem _ hi))
  obtain ⟨va,hva,hpa⟩:=h a (by simp)
  obtain ⟨v',hv',hpv⟩:=h i (List.mem_cons_of_mem _ hi);rw [hv] at hv';cases hv'
  cases q:HR.lt va v with
  | true =>
   refine ⟨a,va,by simp,hva,fun j hj u hu=>?_⟩
   rcases List.mem_cons.1 hj with rfl | hj
   ·rw [hva] at hu;cases hu;unfold HR.lt;simp
   ·obtain ⟨u',hu',hpu⟩:=h j (List.mem_cons_of_mem _ hj)
    rw [hu] at hu';cases hu';exact lt_trans' (lt_tot' q) (hl j hj u hu) hpa hpv hpu
  | false =>
   refine ⟨i,v,List.mem_cons_of_mem _ hi,hv,fun j hj u hu=>?_⟩
   rcases List.mem_cons.1 hj with rfl | hj
   ·rw [hva] at hu;cases hu;exact q
   ·exact hl j hj u hu
theorem Inv.least {K e:Nat} {s:St} (h:Inv K e s) {x:Int} {p:Pl} (ep:s.pl.a x=some p) (hn:0<p.cn):Lst p (least p).1 (least p).2:=by
 obtain ⟨l,l1,l2,l3⟩:=(h.pl _ _ ep).2.2.1;have hne:l≠[]:=fun q=>by rw [q] at l2;simp at l2;omega
 obtain ⟨i,v,hi,hv,hl⟩:=lst_ex l p.ca hne (fun i hi=>by
  obtain ⟨v,hv⟩:=Option.isSome_iff_exists.1 ((l3 i).1 hi);obtain ⟨_,_,b,hb,_,_,_,hm⟩:=h.ca _ _ i v ep hv;have:=h.bx i b hb
  exact ⟨v,hv,by omega⟩)
 have hx:∃ z:Int×HR.V,Lst p z.1 z.2:=⟨(i,v),hv,fun k u hu=>hl k ((l3 k).2 (by rw [hu];rfl)) u hu⟩
 unfold C.least;rw [dif_pos hx];exact hx.choose_spec
theorem kill_all {s:St} {i:Int} {b:Bo} {p:Pl} {g:Fu} {z u:Nat} (hb:s.bx i=some b) (ep:s.pl.a b.ho=some p) (eg:s.fu.a b.fn=some g) (hr:b.q.runs=false) (hH:s.H b.ho=some (false,z,u)) (h1:0≤b.me) (h2:b.me≤u) :
  (s.kill i).H=updZ s.H b.ho (some (false,z,u-b.me.toNat))∧(s.kill i).pl=s.pl.set b.ho { dropP p i b.me with bo:=p.bo.del i }∧(s.kill i).fu=s.fu.set b.fn { g with pi:=g.pi.del i,lo:=g.lo.del i }∧(s.kill i).last=s.last∧(s.kill i).now=s.now:=by
 have hh:(s.hold i).bx i=some b:=hb
 have hhp:(s.hold i).pl=s.pl.set b.ho (dropP p i b.me):=by
  unfold St.hold;rw [St.B_of hb,St.P_of ep];rfl
 have hpa:(s.hold i).pl.a b.ho=some (dropP p i b.me):=by rw [hhp,Tb.set_at]
 have e1:(((s.hold i).outOf i).die i).H=updZ s.H b.ho (some (false,z,u-b.me.toNat)):=by
  show gvH (s.hold i).H (((s.hold i).outOf i).B i).ho (((s.hold i).outOf i).B i).me=_;rw [show ((s.hold i).outOf i).B i=b from St.B_of hb,show (s.hold i).H=s.H from rfl]
  unfold gvH;rw [hH];dsimp only;rw [if_pos ⟨h1,h2⟩];rfl
 have e2:(((s.hold i).outOf i).die i).pl=s.pl.set b.ho { dropP p i b.me with bo:=p.bo.del i }:=by
  show ((s.hold i).outOf i).pl=_;simp only [St.outOf,St.B_of hh,St.P_of hpa];rw [hhp,dropP_bo];unfold Tb.set;simp only [updZ_same,Option.isSome_some,if_true,ep];congr 1
  funext j
  simp only [updZ_at]
  split <;> rfl
 have e3:(((s.hold i).outOf i).die i).fu=s.fu.set b.fn { g with pi:=g.pi.del i,lo:=g.lo.del i }:=by
  show ((s.hold i).outOf i).fu=_;simp only [St.outOf,St.B_of hh];rw [show (s.hold i).G b.fn=g from St.G_of eg];rfl
 have e4:(s.kill i).H=(s.gone i).H∧(s.kill i).pl=(s.gone i).pl∧(s.kill i).fu=(s.gone i).fu∧(s.kill i).last=(s.gone i).last∧(s.kill i).now=(s.gone i).now:=⟨rfl,rfl,rfl,rfl,rfl⟩
 have e5:s.gone i=((s.hold i).outOf i).die i:=by
  unfold St.gone;rw [St.B_of hb];simp only [hr,Bool.false_eq_true,if_false];unfold St.leave;rw [e1,updZ_same];rfl
 rw [e4.1,e4.2.1,e4.2.2.1,e4.2.2.2.1,e4.2.2.2.2,e5];exact ⟨e1,e2,e3,rfl,rfl⟩
theorem upB_some {H:Int→Option Ht} {x:Int} (h:upB H x=true):∃ z u,H x=some (false,z,u):=by
 unfold upB at h
 cases q:H x with
 | none=>rw [q] at h;cases h
 | some t =>
  obtain ⟨d,z,u⟩:=t;rw [q] at h
  cases d with
  | false=>exact ⟨z,u,rfl⟩
  | true=>cases h
def Same (s s':St):Prop:=∀ f g,s.fu.a f=some g→∃ g',s'.fu.a f=some g'∧g'.acc=g.acc∧g'.mem=g.mem∧g'.keep=g.keep∧g'.pi.n=g.pi.n∧∀ j,(g'.pi.a j).isSome=(g.pi.a j).isSome
theorem Same.refl (s:St):Same s s:=fun _ g h=>⟨g,h,rfl,rfl,rfl,rfl,fun _=>rfl⟩
theorem Same.trans {s s' s'':St} (h:Same s s') (k:Same s' s''):Same s s'':=fun f g hg=>by
 obtain ⟨g',h1,h2,h3,h4,h5,h6⟩:=h f g hg;obtain ⟨g'',k1,k2,k3,k4,k5,k6⟩:=k f g' h1;exact ⟨g'',k1,k2.trans h2,k3.trans h3,k4.trans h4,k5.trans h5,fun j=>(k6 j).trans (h6 j)⟩
theorem Inv.ev1 {K e:Nat} {s:St} (h:Inv K e s) {x:Int} {p:Pl} (ep:s.pl.a x=some p) {i:Int} {v:HR.V} (hv:p.ca i=some v) (hu:upB s.H x=true) :
  ∃ s1,(s.setP x (evictP p i v (s.B i).me)).kill i=s1∧Inv K e s1∧upB s1.H x=true∧(∃ p1,s1.pl.a x=some p1∧p1.cn=p.cn-1∧fr s1.H x+p1.sp=fr s.H x+p.sp)∧Same s s1∧s1.now=s.now∧s1.last=s.last:=by
 obtain ⟨hid,hle,b,hb,hq,hbp,hbh,hm⟩:=h.ca _ _ i v ep hv;subst hbh;have hI:=h.evkill ep hv;obtain ⟨z,u,hH⟩:=upB_some hu;obtain ⟨g,eg,hgm,hgp,hgl⟩:=h.onF i b hb (warm_up hq);have hus:=h.use hb (warm_up hq);have hho:=h.ho _ _ _ _ hH;have hbx:=h.bx i b hb;refine ⟨_,rfl,hI,?_⟩;rw [St.B_of hb];obtain ⟨s0,hs0⟩:∃ s0:St,s.setP b.ho (evictP p i v b.me)=s0:=⟨_,rfl⟩;have hb0:s0.bx i=some b:=by rw [←hs0];exact hb
 have ep0:s0.pl.a b.ho=some (evictP p i v b.me):=by rw [←hs0];exact setP_at' _ _ _
 have eg0:s0.fu.a b.fn=some g:=by rw [←hs0];exact eg
 have hH0:s0.H b.ho=some (false,z,u):=by rw [←hs0];exact hH
 obtain ⟨k1,k2,k3,k4,k5⟩:=kill_all hb0 ep0 eg0 (by rw [hq];rfl) hH0 (by omega) (by omega)
 rw [hs0];have hn0:s0.now=s.now:=by rw [←hs0];rfl
 have hl0:s0.last=s.last:=by rw [←hs0];rfl
 have hf0:s0.fu=s.fu:=by rw [←hs0];rfl
 refine ⟨?_,⟨_,by rw [k2,Tb.set_at],?_,?_⟩,?_,by rw [k5,hn0],by rw [k4,hl0]⟩
 ·rw [k1];unfold upB;rw [updZ_same];rfl
 ·have hd:dropP (evictP p i v b.me) i b.me=evictP p i v b.me:=by
   unfold dropP;rw [show (evictP p i v b.me).ca i=none from updZ_same _ _ _]
  show (dropP (evictP p i v b.me) i b.me).cn=_;rw [hd];rfl
 ·have hd:dropP (evictP p i v b.me) i b.me=evictP p i v b.me:=by
   unfold dropP;rw [show (evictP p i v b.me).ca i=none from updZ_same _ _ _]
  show fr (s0.kill i).H b.ho+(dropP (evictP p i v b.me) i b.me).sp=_;rw [hd,k1];show fr _ b.ho+(p.sp-b.me)=_;have f1:fr (updZ s0.H b.ho (some (false,z,u-b.me.toNat))) b.ho=(z:Int)-((u-b.me.toNat:Nat):Int):=by unfold fr;rw [updZ_same]
  have f2:fr s.H b.ho=(z:Int)-(u:Int):=by unfold fr;rw [hH]
  rw [f1,f2];omega
 ·intro f g1 hg1
  rw [k3,hf0]
  by_cases q:f=b.fn
  ·rw [q,Tb.set_at]
   rw [q,eg] at hg1;cases hg1
   have hn:g.pi.a i=none:=by
    cases t:g.pi.a i with
    | none=>rfl
    | some u=>rw [t,hbp] at hgp;cases hgp
   refine ⟨_,rfl,rfl,rfl,rfl,?_,fun j=>?_⟩
   ·show (g.pi.del i).n=_;unfold Tb.del;dsimp only;rw [hn];rfl
   ·show ((g.pi.del i).a j).isSome=_;rw [Tb.a_del]
    by_cases q2:j=i
    ·rw [if_pos q2,q2,hn]
    ·rw [if_neg q2]
  ·rw [Tb.set_ne _ _ q];exact ⟨g1,hg1,rfl,rfl,rfl,rfl,fun _=>rfl⟩
theorem Inv.clear {K e:Nat} {x mem:Int}:∀ (n:Nat) {s:St} {p:Pl},Inv K e s→s.pl.a x=some p→p.cn=n→upB s.H x=true→mem≤fr s.H x+p.sp →
  Inv K e (s.clear x mem n)∧upB (s.clear x mem n).H x=true∧mem≤fr (s.clear x mem n).H x∧Same s (s.clear x mem n)∧(s.clear x mem n).now=s.now∧(s.clear x mem n).last=s.last
 | 0,s,p,h,ep,hn,hu,hm=>by
  have hp:=h.pl _ _ ep;rw [hn] at hp
  have:p.sp=0:=by
   rw [hp.2.2.2.2.2];have:=sumN_zero (g:=spN p.ca) (n:=s.last.toNat) (fun j _=>by unfold spN;rw [hp.2.2.1.none])
   omega
  exact ⟨h,hu,by show mem≤fr s.H x;omega,Same.refl s,rfl,rfl⟩
 | n+1,s,p,h,ep,hn,hu,hm=>by
  have hl:=h.least ep (by omega)
  obtain ⟨s1,hs1,h1,hu1,⟨p1,ep1,hn1,hfr⟩,hS,hno,hla⟩:=h.ev1 ep hl.1 hu;unfold St.clear;simp only [St.P_of ep];rw [hs1]
  split
  ·exact ⟨h1,hu1,by assumption,hS,hno,hla⟩
  ·obtain ⟨a1,a2,a3,a4,a5,a6⟩:=Inv.clear (mem:=mem) n h1 ep1 (by omega) hu1 (by omega)
   exact ⟨a1,a2,a3,hS.trans a4,a5.trans hno,a6.trans hla⟩
theorem Inv.room {K e:Nat} {s:St} (h:Inv K e s) (mem:Int) :
  Inv K e (s.room mem).1∧(∀ x,(s.room mem).2=some x→upB (s.room mem).1.H x=true∧mem≤fr (s.room mem).1.H x)∧Same s (s.room mem).1∧(s.room mem).1.now=s.now∧(s.room mem).1.last=s.last:=by
 unfold St.room
 split
 ·rename_i hf
  refine ⟨h,fun x hx=>?_,Same.refl s,rfl,rfl⟩
  cases hx
  unfold fit at hf ⊢
  split at hf
  ·cases hf
  ·rw [if_neg (by assumption)]
   have:=(fitT_some s.H mem 32 hf).2.1
   unfold fits at this;simp at this;exact this
 ·cases q:(List.range 32).find? (fun j:Nat=>s.may (j:Int) mem) with
  | none=>exact ⟨h,(fun x hx=>nomatch hx),Same.refl s,rfl,rfl⟩
  | some j =>
   have hm:=List.find?_some q;simp only [St.may,Bool.and_eq_true,decide_eq_true_eq] at hm;obtain ⟨z,u,hH⟩:=upB_some hm.1;obtain ⟨p,ep⟩:=Option.isSome_iff_exists.1 (h.ho _ _ _ _ hH).2.2.2.2.2.1;rw [St.P_of ep] at hm;simp only [St.P_of ep];obtain ⟨a1,a2,a3,a4,a5,a6⟩:=Inv.clear p.cn h ep rfl hm.1 hm.2;exact ⟨a1,fun x hx=>by cases hx;exact ⟨a2,a3⟩,a4,a5,a6⟩
theorem unpin_B {s:St} {i:Int} {b:Bo} (hb:s.bx i=some b) (hi:b.id=i):(s.unpin i).bx i=some { b with p:=false }:=by
 unfold St.unpin;rw [St.B_of hb];show updZ s.bx b.id (some { b with p:=false }) i=_
 rw [hi,updZ_same]
theorem Inv.one {K e:Nat} {s:St} (h:Inv K e s) {i:Int} {b:Bo} (hb:s.bx i=some b) (hu:upQ b.q=true) (hp:b.p=true) (t:Int):Inv K e (s.one i t):=by
 have h1:=h.unpin hb hu;have hb1:=unpin_B hb (h.bx i b hb).1;unfold St.one;dsimp only
 split
 ·rename_i hq
  rw [St.B_of hb1] at hq
  have hw:b.q=.warm:=by
   have hq2:b.q.idle=true:=hq
   cases r:b.q <;> rw [r] at hq2 <;> first | rfl | cases hq2
  refine h1.idle hb1 hw rfl (fun p hpp=>?_) t
  cases r:p.ca i with
  | none=>rfl
  | some v =>
   obtain ⟨_,_,c,hc,_,hcp,_⟩:=h.ca b.ho p i v hpp r;rw [hb] at hc;cases hc;rw [hp] at hcp;cases hcp
 ·exact h1
theorem Inv.cnt {K e:Nat} {s:St} (h:Inv K e s) {f:Int} {g:Fu} (eg:s.fu.a f=some g):g.pi.n=(ups g.pi s.last).length:=by
 have hc:=(h.fuC f g eg).1
 have hu:Cnt g.pi.a (ups g.pi s.last).length:=⟨ups g.pi s.last,(ups_pw _ _).imp (fun h=>Int.ne_of_lt h),rfl,fun i=>by
  rw [mem_ups];refine ⟨fun q=>q.2.2,fun q=>?_⟩;obtain ⟨b,hb,_⟩:=h.pi f g i eg q;have:=h.bx i b hb
  exact ⟨by omega,by omega,q⟩⟩
 exact hc.uniq hu (fun _=>rfl)
theorem upQ_ne {q:Ph}:upQ q=true↔q≠.dead:=by
 cases q <;> simp [upQ]
theorem iv4:Iv4 (fun K s=>Inv K 0 s):=by
 refine ⟨⟨fun K=>⟨⟨fun s h=>h.bd (by omega),?_,?_,?_⟩,?_,?_⟩,?_,?_,?_,?_⟩,?_,?_⟩
 ·intro s i b h hb hq
  obtain ⟨_,p,ep,_⟩:=h.onP i b hb (upQ_ne.2 hq);obtain ⟨g,eg,_⟩:=h.onF i b hb (upQ_ne.2 hq);exact ⟨⟨p,ep⟩,g,eg⟩
 ·intro s x p i v h ep hv
  obtain ⟨h1,_,b,hb,hq,_,hh,hm⟩:=h.ca _ _ i v ep hv;obtain ⟨_,p',ep',hbo⟩:=h.onP i b hb (warm_up hq);rw [hh,ep] at ep';cases ep';have:=h.bx i b hb
  exact ⟨b,hb,by rw [hq];exact fun q=>(nomatch q),hh,hbo,h1,by omega⟩
 ·intro s x p i v h ep hl hu
  exact ⟨(h.evict ep hl.1).bd (by omega),h.evkill ep hl.1⟩
 ·intro s x h hu
  obtain ⟨z,u,hH⟩:=upB_some hu;exact Option.isSome_iff_exists.1 (h.ho _ _ _ _ hH).2.2.2.2.2.1
 ·intro s x h
  unfold fr
  cases q:s.H x with
  | none=>simp
  | some t=>obtain ⟨d,z,u⟩:=t;have:=h.ho _ _ _ _ q;dsimp only;omega
 ·intro K s f g x h eg hu hm
  exact ⟨h.unused,h.boot eg hu hm⟩
 ·intro K s f g i h eg hi
  rcases hi with hi | hi
  ·obtain ⟨b,hb,hq,hf⟩:=h.pi f g i eg hi;exact ⟨b,hb,upQ_ne.1 hq,hf⟩
  ·obtain ⟨b,hb,hq,hf⟩:=h.lo f g i eg hi;exact ⟨b,hb,upQ_ne.1 hq,hf⟩
 ·intro K s f g i h eg hi
  obtain ⟨b,hb,hq,hf⟩:=h.lo f g i eg hi;obtain ⟨g',eg',_,h1,h2⟩:=h.onF i b hb hq;rw [hf,eg] at eg';cases eg';rw [hi] at h2;refine ⟨?_,h.pin hb hq⟩;rw [h1];cases q:b.p with
  | false=>rfl
  | true=>rw [q] at h2;cases h2
 ·intro K s mem h
  obtain ⟨h1,h2,h3,_⟩:=h.room mem
  exact ⟨h1,h2,fun f g hg=>by
   obtain ⟨g',k1,_,k2,k3,k4,_⟩:=h3 f g hg;exact ⟨g',k1,k2,k3,k4⟩⟩
 ·intro K s f g i t h eg hi ht ht2
  obtain ⟨b,hb,hq,hf⟩:=h.pi f g i eg hi;obtain ⟨g',eg',_,h1,h2⟩:=h.onF i b hb hq;rw [hf,eg] at eg';cases eg';rw [hi] at h1;exact ⟨(h.unpin hb hq).bd (by omega),h.one hb hq h1.symm t⟩
 ·intro K s f g h eg
  exact h.cnt eg
theorem win_ok (g:Fu):0≤g.win.2.1∧g.win.2.1<g.win.2.2∧g.win.2.2≤1264438371943:=winN_ok _ _ _
theorem set_some {α:Type} {m:Tb α} {i j:Int} {v:α} (h:(m.a j).isSome=true):((m.set i v).a j).isSome=true:=by
 rw [Tb.a_set];split
 ·rfl
 ·exact h
theorem pin_some {s:St} {i f:Int} (h:(s.fu.a f).isSome=true):((s.pin i).fu.a f).isSome=true:=set_some h
theorem boot_some {s:St} {x f j:Int} (h:(s.fu.a j).isSome=true):((s.boot f x).fu.a j).isSome=true:=set_some h
theorem Inv.pinL {K e:Nat} {f:Int}:∀ (l:List Int) {s:St},Inv K e s→(∀ i ∈ l,(s.mx.a i).isSome=true)→Inv K e (s.pinL f l).1∧∀ j,(s.fu.a j).isSome=true→((s.pinL f l).1.fu.a j).isSome=true
 | [],s,h,_=>⟨h,fun _ q=>q⟩
 | i :: l,s,h,hl=>by
  unfold St.pinL
  split
  ·exact ⟨h,fun _ q=>q⟩
  ·obtain ⟨b,hb,hu⟩:=h.alive (hl i (by simp))
   obtain ⟨h1,h2⟩:=Inv.pinL (f:=f) l (h.pin hb hu) (fun j hj=>hl j (by simp [hj]))
   exact ⟨h1,fun j q=>h2 j (pin_some q)⟩
theorem Inv.bootN {K e:Nat} {f:Int}:∀ (n:Nat) {s:St},Inv (K+n) e s→(s.fu.a f).isSome=true→Inv K e (s.bootN f n)
 | 0,s,h,_=>h
 | n+1,s,h,hf=>by
  obtain ⟨g,eg⟩:=Option.isSome_iff_exists.1 hf;unfold St.bootN
  split
  ·rw [St.G_of eg]
   obtain ⟨h1,h2,h3,_⟩:=h.room g.mem
   cases q:s.room g.mem with
   | mk s1 o =>
    rw [q] at h1 h2 h3
    cases o with
    | none=>exact h1.mono (by omega) (Nat.le_refl _)
    | some x =>
     obtain ⟨k1,k2⟩:=h2 x rfl;obtain ⟨g',eg',_,hm,_⟩:=h3 f g eg;have h4:Inv (K+n+1) e s1:=h1;have h5:=h4.boot eg' k1 (by rw [hm];exact k2)
     have hb:(s1.boot f x).bx (s1.last+1)=some ⟨s1.last+1,f,x,(s1.G f).mem,.boot,false,s1.now⟩:=updZ_same _ _ _;exact Inv.bootN n (h5.pin hb rfl) (pin_some (boot_some (by rw [eg'];rfl)))
  ·exact h.mono (by omega) (Nat.le_refl _)
theorem Inv.more {K e:Nat} {s:St} (h:Inv (K+1000) e s) {f:Int} {g:Fu} (eg:s.fu.a f=some g):Inv K e (s.more f):=by
 unfold St.more
 obtain ⟨h1,h2⟩:=h.pinL (f:=f) (s.pinnable f) (fun i hi=>by
  have hlo:((s.G f).lo.a i).isSome=true:=by
   unfold St.pinnable at hi;simp only [List.mem_append,List.mem_filter,mem_ups] at hi
   rcases hi with (hi | hi) | hi <;> exact hi.1.1.2.2
  rw [St.G_of eg] at hlo;obtain ⟨b,hb,hu,_⟩:=h.lo f g i eg hlo;exact h.mx_of hb hu)
 dsimp only
 split
 ·exact h1.mono (by omega) (Nat.le_refl _)
 ·have hs:=h2 f (by rw [eg];rfl)
  obtain ⟨g1,eg1⟩:=Option.isSome_iff_exists.1 hs;have:=h1.fu f g1 eg1
  rw [St.G_of eg1];exact Inv.bootN _ (h1.mono (by omega) (Nat.le_refl _)) hs
theorem Inv.fewer {K:Nat} {s:St} (h:Inv K 0 s) {f t:Int} {g:Fu} (eg:s.fu.a f=some g) (ht:s.now<t) (ht2:t≤4398046511104) (l:List Int) (hl:∀ i ∈ l,(g.pi.a i).isSome=true) (hn:l.Nodup):Inv K 0 (s.fewer f t l.reverse):=by
 obtain ⟨_,h1,_⟩:=fewer_inv iv4 h eg ht ht2 l hl hn l.length 0 (by omega)
 exact h1
theorem drop_mem {m:Tb Unit} {n i:Int} {k:Nat} (h:i ∈ (ups m n).drop k):(m.a i).isSome=true:=(mem_ups.1 (List.mem_of_mem_drop h)).2.2
theorem drop_nodup (m:Tb Unit) (n:Int) (k:Nat):((ups m n).drop k).Nodup:=(((ups_pw m n).imp (fun h=>Int.ne_of_lt h)):(ups m n).Nodup).sublist (List.drop_sublist k _)
theorem Inv.keep {K:Nat} {s:St} (h:Inv (K+1000) 0 s) {f:Int} {g:Fu} (eg:s.fu.a f=some g):Inv K 0 (s.keep f):=by
 unfold St.keep
 split
 ·rw [St.G_of eg]
  have:=win_ok g
  have:=h.now
  exact (h.fewer eg (by omega) (by omega) _ (fun i hi=>drop_mem hi) (drop_nodup _ _ _)).mono (by omega) (Nat.le_refl _)
 ·split
  ·exact h.more eg
  ·exact h.mono (by omega) (Nat.le_refl _)
theorem Inv.keepAll {K:Nat}:∀ (n:Nat) {s:St},Inv (K+1000*n) 0 s→Inv K 0 (s.keepAll n)
 | 0,s,h=>h
 | n+1,s,h=>by
  have h1:Inv (K+1000) 0 (s.keepAll n):=Inv.keepAll n (by
                                 have e:K+1000*(n+1)=K+1000+1000*n:=by omega
                                 rw [e] at h;exact h)
  unfold St.keepAll;dsimp only
  split
  ·rename_i q
   obtain ⟨g,eg⟩:=Option.isSome_iff_exists.1 q;exact h1.keep eg
  ·exact h1.mono (by omega) (Nat.le_refl _)
theorem Inv.ahS {K e:Nat} {s:St} (h:Inv K e s) {i t:Int} (hi:(s.mx.a i).isSome=true) (ht:0≤t∧t≤4398046511104):Inv K e { s with ah:=s.ah.set i t }:=by
 refine { h with cah:=Tb.cset h.cah i t,ah:=?_ }
 intro j u hj;have hj2:(s.ah.set i t).a j=some u:=hj;rw [Tb.a_set] at hj2
 split at hj2
 ·cases hj2;subst_vars;exact ⟨hi,ht⟩
 ·exact h.ah j u hj2
theorem Inv.ahD {K e:Nat} {s:St} (h:Inv K e s) (i:Int):Inv K e { s with ah:=s.ah.del i }:=by
 refine { h with cah:=Tb.cdel h.cah i,ah:=?_ }
 intro j u hj;have hj2:(s.ah.del i).a j=some u:=hj;rw [Tb.a_del] at hj2
 split at hj2
 ·cases hj2
 ·exact h.ah j u hj2
theorem Inv.ahead {K:Nat} {s:St} (h:Inv (K+1) 0 s) {f:Int} {g:Fu} (eg:s.fu.a f=some g):Inv K 0 (s.ahead f):=by
 unfold St.ahead
 split
 ·exact h.mono (by omega) (Nat.le_refl _)
 ·split
  ·rename_i hf
   rw [St.G_of eg] at hf ⊢
   have hfit:upB s.H ((fit s.H g.mem).1:Int)=true∧g.mem≤fr s.H ((fit s.H g.mem).1:Int):=by
    unfold fit at hf ⊢
    split at hf
    ·cases hf
    ·rw [if_neg (by assumption)]
     have:=(fitT_some s.H g.mem 32 hf).2.1
     unfold fits at this
     simpa using this
   have hb:=h.boot eg hfit.1 hfit.2;have hf2:=h.fu _ _ eg;dsimp only;refine hb.ahS ?_ (by omega)
   show ((s.mx.set (s.last+1) ()).a (s.last+1)).isSome=true;rw [Tb.set_at];rfl
  ·exact h.mono (by omega) (Nat.le_refl _)
theorem k10 {f i:Int}:((1,f):HT.K)≠(0,i):=fun e=>by have:=congrArg Prod.fst e;simp at this
def btN (T:HT.K→Option Int):Nat:=sumN (fun j=>if (T (1,(j:Int))).isSome then 1 else 0) 64
theorem btN_le (T:HT.K→Option Int):btN T≤64:=sumN_bound (c:=1) (fun j=>by split <;> omega) 64
theorem btN_ext {T T':HT.K→Option Int} (h:∀ f,(T' (1,f)).isSome=(T (1,f)).isSome):btN T'=btN T:=sumN_ext (fun j _=>by rw [h])
theorem btN_out {T T':HT.K→Option Int} {f:Int} (hf:0≤f∧f<64) (h:(T (1,f)).isSome=true) (h0:(T' (1,f)).isSome=false) (ho:∀ j,j≠f→T' (1,j)=T (1,j)):btN T'+1=btN T:=by
 have:=sumN_upd (g:=fun j:Nat=>if (T (1,(j:Int))).isSome then 1 else 0) (g':=fun j:Nat=>if (T' (1,(j:Int))).isSome then 1 else 0) (x:=f.toNat) (fun j hj=>by rw [ho _ (by omega)]) (n:=64) (by omega)
 simp only [show ((f.toNat:Nat):Int)=f by omega,h,h0,if_true] at this
 unfold btN
 simpa using this
theorem kill_T1 {s:St} {i f:Int}:(s.kill i).T (1,f)=s.T (1,f):=by
 have:∀ s2:St,(s2.leave (s.B i).ho).T=s2.T:=fun s2=>by unfold St.leave;split <;> rfl
 show (s.gone i).T (1,f)=_;unfold St.gone;dsimp only;rw [this]
 split
 ·show (s.hold i).T (1,f)=_
  exact HT.updZ_ne (i:=(0,i)) s.T none k10
 ·show (s.hold i).T (1,f)=_
  exact HT.updZ_ne (i:=(0,i)) s.T none k10
theorem ahead_T {s:St} {f:Int}:(s.ahead f).T=s.T:=by
 unfold St.ahead;split
 ·rfl
 ·split <;> rfl
theorem next_due {s:St} {k:HT.K} (h:s.next=some k):Due s k:=by
 unfold St.next at h
 split at h
 ·cases h;rename_i q;exact q.choose_spec
 ·cases h
theorem Inv.dues {K:Nat}:∀ (n:Nat) {s:St},Inv (K+btN s.T) 0 s→Inv K 0 (s.dues n)
 | 0,s,h=>h.mono (by omega) (Nat.le_refl _)
 | n+1,s,h=>by
  unfold St.dues
  cases q:s.next with
  | none=>exact h.mono (by omega) (Nat.le_refl _)
  | some k =>
   obtain ⟨t,⟨ht,_⟩,_⟩:=next_due q;dsimp only;have h1:=h.delT k;have key:∀ j,(s.delT k).T j=if j=k then none else s.T j:=fun j=>updT_at _ _ _ _
   split
   ·rename_i hk
    obtain ⟨k1,k2⟩:=k;have hk:k1=0:=hk;subst hk;obtain ⟨b,hb,hw,_⟩:=h.T0 k2 t ht;refine Inv.dues n ?_;have h2:=h1.kill (b:=b) hb (warm_up hw);rw [btN_ext (T:=s.T) (fun f=>by rw [kill_T1,key,if_neg k10])]
    exact h2
   ·rename_i hk
    obtain ⟨q1,q2⟩:=h.T1 k t ht hk;rw [if_pos q1];obtain ⟨g,eg⟩:=Option.isSome_iff_exists.1 q2;have hf:=h.fu _ _ eg;obtain ⟨k1,k2⟩:=k;have q1:k1=1:=q1;subst q1;have hbt:=btN_out (T:=s.T) (T':=(s.delT (1,k2)).T) (f:=k2) ⟨hf.1,hf.2.1⟩ (by rw [ht];rfl) (by rw [key,if_pos rfl];rfl) (fun j hj=>by rw [key,if_neg (fun e=>hj (by cases e;rfl))])
    refine Inv.dues n ?_;rw [ahead_T];refine Inv.ahead (f:=k2) (g:=g) ?_ eg;rw [←hbt,←Nat.add_assoc] at h1;exact h1
theorem Inv.tick1 {K e:Nat} {s:St} (h:Inv K e s) (hn:s.now≠1099511627776):Inv K e { s with now:=s.now+1,tk:=⟨fun a=>(s.tk.a a).map tickB,s.tk.n⟩ }:=by
 have hnow:=h.now;refine { h with now:=?_,ctk:=?_,bx:=?_,fu:=?_,tk:=?_ }
 ·show 0≤s.now+1∧s.now+1≤1099511627776;omega
 ·exact h.ctk.one (fun i=>by show ((s.tk.a i).map tickB).isSome=_;cases s.tk.a i <;> rfl)
 ·intro i b hb
  have:=h.bx i b hb
  refine ⟨this.1,this.2.1,this.2.2.1,this.2.2.2.1,this.2.2.2.2.1,this.2.2.2.2.2.1,this.2.2.2.2.2.2.1,this.2.2.2.2.2.2.2.1,this.2.2.2.2.2.2.2.2.1,this.2.2.2.2.2.2.2.2.2.1,?_⟩;show b.t≤s.now+1;omega
 ·intro f g hg
  obtain ⟨h1,h2,h3,h4,h5,h6,h7,h8,h9,h10,h11,h12,h13,h14,h15,h16,h17⟩:=h.fu f g hg;refine ⟨h1,h2,h3,h4,h5,h6,h7,h8,h9,h10,h11,h12,h13,?_,h15,h16,?_⟩
  ·show g.ended≤s.now+1;omega
  ·show ((s.tk.a g.acc).map tickB).isSome=true
   cases q:s.tk.a g.acc with
   | none=>rw [q] at h17;cases h17
   | some v=>rfl
 ·intro a v hv
  have hv2:(s.tk.a a).map tickB=some v:=hv
  cases q:s.tk.a a with
  | none=>rw [q] at hv2;cases hv2
  | some u=>exact h.tk a u q
theorem Inv.tick {K:Nat} {s:St} (h:Inv (K+64064) 0 s):Inv K 0 s.tick:=by
 unfold St.tick
 split
 ·exact h.mono (by omega) (Nat.le_refl _)
 ·rename_i hn
  have h1:=h.tick1 hn;dsimp only;refine Inv.keepAll 64 (Inv.dues _ (h1.mono ?_ (Nat.le_refl _)));have:=btN_le ({ s with now:=s.now+1,tk:=⟨fun a=>(s.tk.a a).map tickB,s.tk.n⟩ }:St).T
  omega
theorem Inv.leave {K e:Nat} {s:St} (h:Inv K e s) (x:Int):Inv K e (s.leave x):=by
 unfold St.leave
 split
 ·exact h
 ·rename_i hn
  have key:∀ y q,(s.pl.del x).a y=some q→y≠x∧s.pl.a y=some q:=by
   intro y q hq;rw [Tb.a_del] at hq
   split at hq
   ·cases hq
   ·exact ⟨by assumption,hq⟩
  have keep:∀ y,(s.H y).isSome=true→(s.pl.del x).a y=s.pl.a y:=by
   intro y hy;rw [Tb.a_del,if_neg (fun (e:y=x)=>hn (e ▸ hy))]
  refine { h with cpl:=Tb.cdel h.cpl x,onP:=?_,bo:=?_,ca:=?_,pl:=?_,ho:=?_ }
  ·intro i b hb hq
   obtain ⟨h1,p,h2,h3⟩:=h.onP i b hb hq;exact ⟨h1,p,by show (s.pl.del x).a b.ho=_;rw [keep _ h1];exact h2,h3⟩
  ·intro y q i hq hi
   exact h.bo y q i (key _ _ hq).2 hi
  ·intro y q i v hq hv
   exact h.ca y q i v (key _ _ hq).2 hv
  ·intro y q hq
   exact h.pl y q (key _ _ hq).2
  ·intro y d z u hy
   obtain ⟨h1,h2,h3,h4,h5,h6,h7⟩:=h.ho y d z u hy;exact ⟨h1,h2,h3,h4,h5,by show ((s.pl.del x).a y).isSome=true;rw [keep _ (by rw [hy];rfl)];exact h6,h7⟩
theorem Inv.hosts {K e:Nat} {s:St} (h:Inv K e s) {x:Int} {o:Option Ht}
  (h1:∀ d z u,o=some (d,z,u)→0≤x∧x<32∧1≤z∧z≤4096∧u≤z∧(s.pl.a x).isSome=true∧u=sumN (useN s.bx x) s.last.toNat)
  (h2:o=none→∀ i b,s.bx i=some b→upQ b.q=true→b.ho≠x):Inv K e { s with H:=updZ s.H x o }:=by
 refine { h with onP:=?_,ho:=?_ }
 ·intro i b hb hq
  obtain ⟨k1,k2⟩:=h.onP i b hb hq;refine ⟨?_,k2⟩;show (updZ s.H x o b.ho).isSome=true;rw [updZ_at]
  split
  ·cases o with
   | some t=>rfl
   | none=>rename_i q;exact absurd q (h2 rfl i b hb hq)
  ·exact k1
 ·intro y d z u hy
  have hy2:updZ s.H x o y=some (d,z,u):=hy;rw [updZ_at] at hy2
  split at hy2
  ·subst_vars;exact h1 d z u rfl
  ·exact h.ho y d z u hy2
theorem useless {s:St} {x:Int} (hx:∀ i b,s.bx i=some b→upQ b.q=true→b.ho≠x):sumN (useN s.bx x) s.last.toNat=0:=by
 refine sumN_zero (fun j _=>?_);unfold useN
 cases q:s.bx ((j:Int)+1) with
 | none=>rfl
 | some b =>
  dsimp only;rw [if_neg (fun t=>hx _ b q t.2 t.1)]
theorem Inv.free0 {K e:Nat} {s:St} (h:Inv K e s) {x:Int} {d:Bool} {z:Nat} (hH:s.H x=some (d,z,0)):∀ i b,s.bx i=some b→upQ b.q=true→b.ho≠x:=by
 intro i b hb hq e;have:=h.use hb hq
 have hbx:=h.bx i b hb;have hh:=h.ho x d z 0 hH;rw [e] at this;omega
theorem Inv.newPl {K e:Nat} {s:St} (h:Inv K e s) {x:Int} (hx:0≤x∧x<32) (h0:∀ i b,s.bx i=some b→upQ b.q=true→b.ho≠x):Inv K e (s.setP x Pl.new):=by
 have key:∀ y q,(s.setP x Pl.new).pl.a y=some q→(y=x∧q=Pl.new)∨(y≠x∧s.pl.a y=some q):=by
  intro y q hq;rw [show (s.setP x Pl.new).pl.a y=_ from Tb.a_set _ _ _ _] at hq
  split at hq
  ·cases hq;exact Or.inl ⟨by assumption,rfl⟩
  ·exact Or.inr ⟨by assumption,hq⟩
 have ne:∀ y,y≠x→(s.setP x Pl.new).pl.a y=s.pl.a y:=fun y hy=>by rw [show (s.setP x Pl.new).pl.a y=_ from Tb.a_set _ _ _ _,if_neg hy]
 have at_:(s.setP x Pl.new).pl.a x=some Pl.new:=setP_at' _ _ _;refine { h with cpl:=Tb.cset h.cpl x _,onP:=?_,bo:=?_,ca:=?_,pl:=?_,ho:=?_ }
 ·intro i b hb hq
  obtain ⟨h1,p,h2,h3⟩:=h.onP i b hb hq;exact ⟨h1,p,by rw [ne _ (h0 i b hb hq)];exact h2,h3⟩
 ·intro y q i hq hi
  rcases key _ _ hq with ⟨_,rfl⟩ | ⟨_,hq⟩
  ·cases hi
  ·exact h.bo y q i hq hi
 ·intro y q i v hq hv
  rcases key _ _ hq with ⟨_,rfl⟩ | ⟨_,hq⟩
  ·cases hv
  ·exact h.ca y q i v hq hv
 ·intro y q hq
  rcases key _ _ hq with ⟨rfl,rfl⟩ | ⟨_,hq⟩
  ·refine ⟨hx.1,hx.2,Cnt.zero,Cnt.zero,Nat.zero_le _,?_⟩
   have:=sumN_zero (g:=spN Pl.new.ca) (n:=s.last.toNat) (fun j _=>rfl)
   show (0:Int)=((sumN (spN Pl.new.ca) s.last.toNat:Nat):Int);rw [this];rfl
  ·exact h.pl y q hq
 ·intro y d z u hy
  obtain ⟨h1,h2,h3,h4,h5,h6,h7⟩:=h.ho y d z u hy;refine ⟨h1,h2,h3,h4,h5,?_,h7⟩
  by_cases q:y=x
  ·rw [q,at_];rfl
  ·rw [ne _ q];exact h6
theorem pos_of_gone {s:St} {i:Int} {b:Bo} (hb:s.bx i=some b) (j:Int):(s.gone i).mx.a j=if j=i then none else s.mx.a j:=by
 have hl:∀ s2:St,(s2.leave b.ho).mx=s2.mx:=fun s2=>by unfold St.leave;split <;> rfl
 unfold St.gone;rw [St.B_of hb];dsimp only;rw [hl]
 split <;> exact Tb.a_del _ _ _
theorem bx_of_gone {s:St} {i:Int} {b:Bo} (hb:s.bx i=some b) (hi:b.id=i) {j:Int} (hj:j≠i):(s.gone i).bx j=s.bx j:=by
 have hl:∀ s2:St,(s2.leave b.ho).bx=s2.bx:=fun s2=>by unfold St.leave;split <;> rfl
 unfold St.gone;rw [St.B_of hb];dsimp only;rw [hl]
 have hd:∀ s2:St,s2.bx i=some b→(s2.die i).bx j=s2.bx j:=fun s2 h2=>by
  show updZ s2.bx (nx 3 (s2.B i) s2.now).1.id _ j=_;rw [St.B_of h2,show (nx 3 b s2.now).1.id=b.id by unfold nx;split <;> rfl,hi,updZ_ne _ _ hj]
 split
 ·exact hd _ hb
 ·exact hd _ hb
theorem Inv.goneI {K e:Nat} {s:St} (h:Inv K e s) {i:Int} {b:Bo} (hb:s.bx i=some b) (hu:upQ b.q=true):Inv K e (s.gone i):=((h.mono (Nat.le_refl _) (Nat.le_succ e)).gone hb hu).1
theorem Inv.goneL {K e:Nat}:∀ (l:List Int) {s:St},Inv K e s→l.Nodup→(∀ i ∈ l,(s.mx.a i).isSome=true) →
  Inv K e (s.goneL l)∧∀ j b,(s.goneL l).bx j=some b→upQ b.q=true→s.bx j=some b∧j ∉ l
 | [],s,h,_,_=>⟨h,fun j b hb _=>⟨hb,by simp⟩⟩
 | i :: l,s,h,hn,hl=>by
  obtain ⟨b,hb,hu⟩:=h.alive (hl i (by simp))
  have hid:=(h.bx i b hb).1;rw [List.nodup_cons] at hn;have h1:=h.goneI hb hu
  obtain ⟨h2,h3⟩:=Inv.goneL l h1 hn.2 (fun j hj=>by
   rw [pos_of_gone hb,if_neg (fun (e:j=i)=>hn.1 (e ▸ hj))];exact hl j (by simp [hj]))
  refine ⟨h2,fun j c hc hq=>?_⟩;obtain ⟨k1,k2⟩:=h3 j c hc hq
  have hji:j≠i:=fun e=>by
   have:=h1.mx_of k1 hq
   rw [pos_of_gone hb,if_pos e] at this;cases this
  exact ⟨by rw [←bx_of_gone hb hid hji];exact k1,by simp [hji,k2]⟩
theorem Inv.drainL {K e:Nat}:∀ (l:List Int) {s:St},Inv K e s→l.Nodup→(∀ i ∈ l,(s.mx.a i).isSome=true)→Inv K e (s.drainL l)
 | [],s,h,_,_=>h
 | i :: l,s,h,hn,hl=>by
  obtain ⟨b,hb,hu⟩:=h.alive (hl i (by simp))
  rw [List.nodup_cons] at hn;unfold St.drainL
  split
  ·exact Inv.drainL l (h.unpin hb hu) hn.2 (fun j hj=>hl j (by simp [hj]))
  ·refine Inv.drainL l (h.kill hb hu) hn.2 (fun j hj=>?_)
   show ((s.gone i).mx.a j).isSome=true;rw [pos_of_gone hb,if_neg (fun (e:j=i)=>hn.1 (e ▸ hj))];exact hl j (by simp [hj])
theorem ups_nodup (m:Tb Unit) (n:Int):(ups m n).Nodup:=(ups_pw m n).imp (fun h=>Int.ne_of_lt h)
theorem Inv.on_mx {K e:Nat} {s:St} (h:Inv K e s) {x:Int} {p:Pl} (ep:s.pl.a x=some p):∀ i ∈ ups p.bo s.last,(s.mx.a i).isSome=true:=fun i hi=>by
 obtain ⟨b,hb,hu,_⟩:=h.bo x p i ep (mem_ups.1 hi).2.2;exact h.mx_of hb hu
theorem Inv.keepA {K:Nat} {s:St} (h:Inv (K+64000) 0 s):Inv K 0 (s.keepAll 64):=Inv.keepAll 64 (h.mono (by omega) (Nat.le_refl _))
theorem Inv.fail {K:Nat} {s:St} (h:Inv (K+64000) 0 s) (x:Int):Inv K 0 (s.fail x).1:=by
 unfold St.fail
 split
 ·rename_i hx
  obtain ⟨t,ht⟩:=Option.isSome_iff_exists.1 hx;obtain ⟨d,z,u⟩:=t;obtain ⟨p,ep⟩:=Option.isSome_iff_exists.1 (h.ho _ _ _ _ ht).2.2.2.2.2.1;rw [St.P_of ep];obtain ⟨h1,h2⟩:=h.goneL (ups p.bo s.last) (ups_nodup _ _) (h.on_mx ep);dsimp only;refine Inv.keepA (K:=K) ((h1.hosts (x:=x) (o:=none) (fun _ _ _ q=>nomatch q) (fun _ i b hb hq e=>?_)).leave x);obtain ⟨k1,k2⟩:=h2 i b hb hq;obtain ⟨_,p',ep',hbo⟩:=h.onP i b k1 hq;rw [e,ep] at ep';cases ep';have:=h.bx i b k1
  exact k2 (mem_ups.2 ⟨by omega,by omega,hbo⟩)
 ·exact h.mono (by omega) (Nat.le_refl _)
theorem Inv.drain {K:Nat} {s:St} (h:Inv (K+64000) 0 s) (x:Int):Inv K 0 (s.drain x).1:=by
 unfold St.drain
 split
 ·rename_i hx
  have hH:∃ z u,s.H x=some (false,z,u):=by
   unfold drC at hx
   cases q:s.H x with
   | none=>rw [q] at hx;simp at hx
   | some t =>
    obtain ⟨d,z,u⟩:=t;rw [q] at hx
    cases d with
    | false=>exact ⟨z,u,rfl⟩
    | true=>simp at hx
  obtain ⟨z,u,hH⟩:=hH;have hho:=h.ho _ _ _ _ hH;obtain ⟨p,ep⟩:=Option.isSome_iff_exists.1 hho.2.2.2.2.2.1;rw [St.P_of ep];have hd:drH s.H x=updZ s.H x (lv true z u):=by unfold drH;rw [hH]
  rw [hd]
  have h1:Inv (K+64000) 0 { s with H:=updZ s.H x (lv true z u) }:=h.hosts (x:=x) (o:=lv true z u) (fun d' z' u' q=>by
   unfold lv at q
   split at q
   ·cases q
   ·cases q;exact hho) (fun q=>by
   unfold lv at q
   split at q
   ·rename_i hu0
    have hu0:=hu0.2;subst hu0;exact h.free0 hH
   ·cases q)
  dsimp only;exact Inv.keepA (K:=K) ((h1.drainL (ups p.bo s.last) (ups_nodup _ _) (h.on_mx ep)).leave x)
 ·exact h.mono (by omega) (Nat.le_refl _)
theorem Inv.addHost {K:Nat} {s:St} (h:Inv (K+64000) 0 s) (x n:Int):Inv K 0 (s.addHost x n).1:=by
 unfold St.addHost
 split
 ·rename_i hx
  have hc:=hx;unfold addC at hc
  split at hc
  ·cases hc
  ·rename_i hq
   split at hc
   ·cases hc
   ·rename_i hn
    have hi:isH x=true:=by
     cases q:isH x with
     | true=>rfl
     | false=>exact absurd (Or.inl q) hq
    have hr:=isH_iff.1 hi
    have hHn:s.H x=none:=by
     cases q:s.H x with
     | none=>rfl
     | some t=>rw [q] at hn;exact absurd rfl hn
    have h0:∀ i b,s.bx i=some b→upQ b.q=true→b.ho≠x:=fun i b hb hu e=>by
     have:=(h.onP i b hb hu).1
     rw [e,hHn] at this;cases this
    have hd:addH s.H x n=updZ s.H x (some (false,n.toNat,0)):=by unfold addH;rw [if_pos hx]
    have h1:=h.newPl hr h0
    have h2:=h1.hosts (x:=x) (o:=some (false,n.toNat,0)) (fun d z u q=>by
     cases q
     exact ⟨hr.1,hr.2,by omega,by omega,Nat.zero_le _,by rw [setP_at'];rfl,(useless (s:=s) h0).symm⟩) (fun q=>nomatch q)
    dsimp only;refine Inv.keepA (K:=K) ?_;rw [hd];exact h2
 ·exact h.mono (by omega) (Nat.le_refl _)
theorem Inv.tkS {K e:Nat} {s:St} (h:Inv K e s) {a:Int} (v:Nat×Nat×Nat) (ha:0≤a∧a<16):Inv K e { s with tk:=s.tk.set a v }:=by
 refine { h with ctk:=Tb.cset h.ctk a v,fu:=?_,tk:=?_ }
 ·intro f g hg
  obtain ⟨h1,h2,h3,h4,h5,h6,h7,h8,h9,h10,h11,h12,h13,h14,h15,h16,h17⟩:=h.fu f g hg;exact ⟨h1,h2,h3,h4,h5,h6,h7,h8,h9,h10,h11,h12,h13,h14,h15,h16,set_some h17⟩
 ·intro b u hb
  have hb2:(s.tk.set a v).a b=some u:=hb;rw [Tb.a_set] at hb2
  split at hb2
  ·subst_vars;exact ha
  ·exact h.tk b u hb2
theorem Inv.account {K e:Nat} {s:St} (h:Inv K e s) (ev:Ev):Inv K e (s.account ev).1:=by
 unfold St.account
 split
 ·exact h
 ·split
  ·exact h
  ·rename_i hc
   have ha:0≤ev.n∧ev.n<16:=by
    unfold accC at hc
    split at hc
    ·rename_i q
     rw [Bool.and_eq_true] at q;unfold isA at q
     simpa using q.1
    ·simp at hc
   exact (h.led (accA s.A s.F ev.n ev.l) s.F).tkS (a:=ev.n) _ ha
theorem Inv.newG {K e:Nat} {s:St} (h:Inv K e s) {f:Int} {g:Fu} (eg:s.fu.a f=none) (hf:0≤f∧f<64) (hpi:g.pi=.nil) (hlo:g.lo=.nil)
  (hg:0≤g.acc∧g.acc<16∧1≤g.mem∧g.mem≤4096∧0≤g.cost∧g.cost≤1000∧0≤g.keep∧g.keep≤1000∧0≤g.often∧g.often≤1000∧-1≤g.ended∧g.ended≤s.now∧0≤g.unt∧g.unt≤4398046511104∧(s.tk.a g.acc).isSome=true):Inv K e (s.setG f g):=by
 have key:∀ y q,(s.setG f g).fu.a y=some q→(y=f∧q=g)∨(y≠f∧s.fu.a y=some q):=by
  intro y q hq;rw [show (s.setG f g).fu.a y=_ from Tb.a_set _ _ _ _] at hq
  split at hq
  ·cases hq;exact Or.inl ⟨by assumption,rfl⟩
  ·exact Or.inr ⟨by assumption,hq⟩
 have ne:∀ y,y≠f→(s.setG f g).fu.a y=s.fu.a y:=fun y hy=>by rw [show (s.setG f g).fu.a y=_ from Tb.a_set _ _ _ _,if_neg hy]
 refine { h with cfu:=Tb.cset h.cfu f g,onF:=?_,pi:=?_,lo:=?_,fu:=?_,fuC:=?_,T1:=?_ }
 ·intro i b hb hq
  obtain ⟨q,h1,h2⟩:=h.onF i b hb hq;exact ⟨q,by rw [ne _ (fun e=>by rw [e,eg] at h1;cases h1)];exact h1,h2⟩
 ·intro y q i hq hi
  rcases key _ _ hq with ⟨_,rfl⟩ | ⟨_,hq⟩
  ·rw [hpi] at hi;cases hi
  ·exact h.pi y q i hq hi
 ·intro y q i hq hi
  rcases key _ _ hq with ⟨_,rfl⟩ | ⟨_,hq⟩
  ·rw [hlo] at hi;cases hi
  ·exact h.lo y q i hq hi
 ·intro y q hq
  rcases key _ _ hq with ⟨rfl,rfl⟩ | ⟨_,hq⟩
  ·exact ⟨hf.1,hf.2,hg⟩
  ·exact h.fu y q hq
 ·intro y q hq
  rcases key _ _ hq with ⟨rfl,rfl⟩ | ⟨_,hq⟩
  ·rw [hpi,hlo];exact ⟨Cnt.zero,Cnt.zero⟩
  ·exact h.fuC y q hq
 ·intro k t hk hn
  obtain ⟨h1,h2⟩:=h.T1 k t hk hn;exact ⟨h1,set_some h2⟩
theorem Inv.func {K:Nat} {s:St} (h:Inv (K+1000) 0 s) {ev:Ev} (hp:0≤ev.n∧0≤ev.a∧0≤ev.p):Inv K 0 (s.func ev).1:=by
 unfold St.func
 split
 ·rename_i hz
  unfold funE at hz
  split at hz
  ·cases hz
  ·rename_i hfn
   split at hz
   ·cases hz
   ·rename_i htk
    split at hz
    ·cases hz
    ·rename_i hst
     have hfn:isFn ev=true:=by simpa using hfn
     unfold isFn at hfn;simp only [Bool.and_eq_true,decide_eq_true_eq] at hfn;obtain ⟨⟨⟨⟨⟨⟨⟨f1,f2⟩,f3⟩,f4⟩,f5⟩,f6⟩,f7⟩,f8⟩:=hfn
     have htk:(s.tk.a ev.a).isSome=true:=by
      cases q:s.tk.a ev.a with
      | none=>rw [q] at htk;exact absurd rfl htk
      | some v=>rfl
     have hnow:=h.now;dsimp only;have h1:Inv (K+1000) 0 ({ s with F:=funF s.A s.F ev.n ev.a ev.v }:St):={ h with }
     cases q:s.fu.a ev.n with
     | none =>
      have e0:(none:Option Fu).getD (Fu.new ev.a ev.m)=Fu.new ev.a ev.m:=rfl;rw [e0];have h2:=h1.newG (f:=ev.n) (g:={ Fu.new ev.a ev.m with cost:=ev.c,keep:=ev.p }) q ⟨hp.1,f1⟩ rfl rfl ⟨hp.2.1,f2,f5,f6,by show 0≤ev.c;omega,f8,hp.2.2,f4,Int.le_refl 0,by show (0:Int)≤1000;omega,Int.le_refl (-1),by show (-1:Int)≤s.now;omega,Int.le_refl 0,by show (0:Int)≤4398046511104;omega,htk⟩
      exact h2.keep (setG_at' _ _ _)
     | some g =>
      have e0:(some g).getD (Fu.new ev.a ev.m)=g:=rfl;rw [e0];obtain ⟨_,_,a1,a2,_,_,a3,a4,a5,a6,a7,a8,a9,a10,a11,a12,a13⟩:=h.fu _ g q;have h2:=h1.setG (f:=ev.n) (g:=g) (g':={ g with cost:=ev.c,keep:=ev.p }) q rfl rfl rfl ⟨a1,a2,by show 0≤ev.c;omega,f8,hp.2.2,f4,a7,a8,a9,a10,a11,a12,a13⟩
      exact h2.keep (setG_at' _ _ _)
 ·exact h.mono (by omega) (Nat.le_refl _)
theorem nx_up {k:Nat} {b:Bo} {now:Int} (hu:upQ b.q=true) (hk:k≠3):upQ (nx k b now).1.q=true:=by
 obtain ⟨i,f,x,m,q,p,t⟩:=b;unfold nx
 split <;> first | rfl | exact hu | exact absurd rfl hk
theorem nx_same {k:Nat} {b:Bo} {now:Int} (hk:k≠3):(nx k b now).1.id=b.id∧(nx k b now).1.fn=b.fn∧(nx k b now).1.ho=b.ho∧(nx k b now).1.me=b.me∧(nx k b now).1.p=b.p:=by
 unfold nx
 split <;> first | exact ⟨rfl,rfl,rfl,rfl,rfl⟩ | exact absurd rfl hk
theorem nx_t {k:Nat} {b:Bo} {now:Int}:(nx k b now).1.t=b.t∨(nx k b now).1.t=now:=by
 unfold nx;split <;> first | exact Or.inl rfl | exact Or.inr rfl
theorem Inv.cold_ca {K e:Nat} {s:St} (h:Inv K e s) {i:Int} {b:Bo} (hb:s.bx i=some b) (hw:¬ (b.q=.warm∧b.p=false)):(∀ p,s.pl.a b.ho=some p→p.ca i=none)∧s.T (0,i)=none:=by
 constructor
 ·intro p hp
  cases r:p.ca i with
  | none=>rfl
  | some v =>
   obtain ⟨_,_,c,hc,hq,hcp,_⟩:=h.ca b.ho p i v hp r;rw [hb] at hc;cases hc;exact absurd ⟨hq,hcp⟩ hw
 ·cases r:s.T (0,i) with
  | none=>rfl
  | some t =>
   obtain ⟨c,hc,hq,hcp⟩:=h.T0 i t r;rw [hb] at hc;cases hc;exact absurd ⟨hq,hcp⟩ hw
theorem Inv.nxB {K e:Nat} {s:St} (h:Inv K e s) {i:Int} {b:Bo} (hb:s.bx i=some b) (hu:upQ b.q=true) {k:Nat} (hk:k≠3) (hc:(∀ p,s.pl.a b.ho=some p→p.ca i=none)∧s.T (0,i)=none):Inv K e (s.setB (nx k b s.now).1):=by
 have hbx:=h.bx i b hb;have hn:=h.now;refine h.turnB hb hu (nx_same hk) (nx_up hu hk) ?_ hc.1 hc.2
 rcases nx_t (k:=k) (b:=b) (now:=s.now) with q | q <;> rw [q] <;> omega
theorem setB_bx {s:St} {i:Int} {b':Bo} (hi:b'.id=i):(s.setB b').bx i=some b':=by
 show updZ s.bx b'.id (some b') i=_;rw [hi,updZ_same]
theorem Inv.rest {K e:Nat} {s:St} (h:Inv K e s) {i:Int} {b:Bo} (hb:s.bx i=some b) (hq:b.q=.warm) (hp:b.p=false) (hca:∀ p,s.pl.a b.ho=some p→p.ca i=none):Inv K e (s.rest i):=by
 obtain ⟨g,eg,_⟩:=h.onF i b hb (warm_up hq);have hw:=win_ok g;have hn:=h.now;unfold St.rest;rw [St.B_of hb];dsimp only;rw [St.G_of eg]
 split
 ·exact h.idle hb hq hp hca _
 ·obtain ⟨_,_,a1,a2,_,_,a3,a4,a5,a6,a7,a8,a9,a10,_,_,a13⟩:=h.fu _ g eg
  have h1:=h.setT1 eg (s.now+g.win.2.1);have h2:=h1.setG (f:=b.fn) (g:=g) (g':={ g with unt:=s.now+g.win.2.2 }) eg rfl rfl rfl ⟨a1,a2,a3,a4,a5,a6,a7,a8,a9,a10,by show 0≤s.now+g.win.2.2;omega,by show s.now+g.win.2.2≤4398046511104;omega,a13⟩
  exact h2.kill (b:=b) hb (warm_up hq)
theorem Inv.done {K e:Nat} {s:St} (h:Inv K e s) {i:Int} {b:Bo} (hb:s.bx i=some b) (hu:upQ b.q=true):Inv K e (s.done i).1:=by
 obtain ⟨g,eg,_⟩:=h.onF i b hb hu;unfold St.done;rw [St.B_of hb]
 split
 ·rename_i hd
  have hbusy:b.q=.busy:=by
   obtain ⟨i',f',x',m',q',p',t'⟩:=b
   cases q' <;> first | rfl | (exact absurd hd (by simp [nx]))
  have hc:=h.cold_ca hb (fun q=>by rw [hbusy] at q;cases q.1)
  have hid:=(h.bx i b hb).1
  have hb'q:(nx 2 b s.now).1={ b with q:=.warm,t:=s.now }:=by
   obtain ⟨i',f',x',m',q',p',t'⟩:=b;have hq:q'=.busy:=hbusy;subst hq;rfl
  have h1:=h.nxB (k:=2) hb hu (by decide) hc
  obtain ⟨b',hb'⟩:∃ b',(nx 2 b s.now).1=b':=⟨_,rfl⟩;rw [hb'] at h1 hb'q;rw [hb'];have e1:b'.id=i:=by rw [hb'q];exact hid
  have e2:b'.fn=b.fn:=by rw [hb'q]
  have e3:b'.ho=b.ho:=by rw [hb'q]
  have e4:b'.q=.warm:=by rw [hb'q]
  have e5:b'.p=b.p:=by rw [hb'q]
  have h2:=h1.endC (f:=b.fn) (g:=g) eg;have hb2:((s.setB b').endC b.fn).bx i=some b':=setB_bx e1;dsimp only
  split
  ·exact h2.kill hb2 (warm_up e4)
  ·split
   ·exact h2
   ·rename_i hp
    have hp:b.p=false:=by simpa using hp
    exact h2.rest hb2 e4 (by rw [e5];exact hp) (fun p hpp=>hc.1 p (by rw [←e3];exact hpp))
 ·exact h
theorem Inv.booted {K e:Nat} {s:St} (h:Inv K e s) {i:Int} {b:Bo} (hb:s.bx i=some b) (hu:upQ b.q=true):Inv K e (s.booted i).1:=by
 unfold St.booted;rw [St.B_of hb]
 split
 ·rename_i hd
  have hbt:b.q=.boot∨b.q=.bound:=by
   obtain ⟨i',f',x',m',q',p',t'⟩:=b
   cases q' <;> first | exact Or.inl rfl | exact Or.inr rfl | (exact absurd hd (by simp [nx]))
  have hc:=h.cold_ca hb (fun q=>by rcases hbt with t | t <;> rw [t] at q <;> cases q.1)
  have hid:=(h.bx i b hb).1;have h1:=h.nxB (k:=1) hb hu (by decide) hc
  have hs:=nx_same (k:=1) (b:=b) (now:=s.now) (by decide)
  obtain ⟨b',hb'⟩:∃ b',(nx 1 b s.now).1=b':=⟨_,rfl⟩;rw [hb'] at h1 hs;rw [hb'];have hb1:(s.setB b').bx i=some b':=setB_bx (hs.1.trans hid);have h2:=h1.ahD i;dsimp only
  split
  ·rename_i hq
   rw [St.B_of hb1] at hq
   have hw:b'.q=.warm:=by
    have:=hq.1
    cases r:b'.q <;> rw [r] at this <;> first | rfl | cases this
   exact h2.idle (b:=b') hb1 hw hq.2 (fun p hpp=>hc.1 p (by rw [←hs.2.2.1];exact hpp)) _
  ·exact h2
 ·exact h
theorem gone_some {s:St} {i f:Int} {b:Bo} (hb:s.bx i=some b) (h:(s.fu.a f).isSome=true):((s.gone i).fu.a f).isSome=true:=by
 have hl:∀ s2:St,(s2.leave b.ho).fu=s2.fu:=fun s2=>by unfold St.leave;split <;> rfl
 unfold St.gone;rw [St.B_of hb];dsimp only;rw [hl]
 split
 ·exact set_some (set_some h)
 ·exact set_some h
theorem Inv.tend {K:Nat} {s:St} (h:Inv (K+1000) 0 s) (ev:Ev):Inv K 0 (s.tend ev).1:=by
 unfold St.tend
 split
 ·rename_i hm
  obtain ⟨b,hb,hu⟩:=h.alive hm
  split
  ·exact (h.booted hb hu).mono (by omega) (Nat.le_refl _)
  ·split
   ·exact (h.done hb hu).mono (by omega) (Nat.le_refl _)
   ·obtain ⟨g,eg,_⟩:=h.onF _ b hb hu
    have h1:=h.goneI hb hu;have hs:=gone_some (f:=b.fn) hb (by rw [eg];rfl)
    obtain ⟨g1,eg1⟩:=Option.isSome_iff_exists.1 hs;rw [St.B_of hb];exact h1.keep eg1
 ·exact h.mono (by omega) (Nat.le_refl _)
theorem calledG_all (g:Fu) (now:Int) (c:Bool):(calledG g now c).acc=g.acc∧(calledG g now c).mem=g.mem∧(calledG g now c).cost=g.cost∧(calledG g now c).keep=g.keep∧(calledG g now c).ended=g.ended∧(calledG g now c).unt=g.unt∧(calledG g now c).pi=g.pi∧(calledG g now c).lo=g.lo∧(calledG g now c).often=min (g.often+1) 1000:=by
 unfold calledG;split <;> exact ⟨rfl,rfl,rfl,rfl,rfl,rfl,rfl,rfl,rfl⟩
theorem Inv.begin {K e:Nat} {s:St} (h:Inv K e s) {i:Int} {b:Bo} (hb:s.bx i=some b) (hu:upQ b.q=true) {f:Int} (hf:b.fn=f):Inv K e (s.begin f i):=by
 subst hf;obtain ⟨g,eg,_⟩:=h.onF i b hb hu;unfold St.begin;rw [St.G_of eg];obtain ⟨_,_,a1,a2,_,_,a3,a4,a5,a6,a7,a8,a9,a10,a11,a12,a13⟩:=h.fu _ g eg;obtain ⟨c1,c2,c3,c4,c5,c6,c7,c8,c9⟩:=calledG_all g s.now (busy s.F b.fn == 0);have h1:=h.setG (f:=b.fn) (g:=g) (g':=calledG g s.now (busy s.F b.fn == 0)) eg c7 c8 c2 ⟨by rw [c1];exact a1,by rw [c1];exact a2,by rw [c3];exact a3,by rw [c3];exact a4,by rw [c4];exact a5,by rw [c4];exact a6,by rw [c9];omega,by rw [c9];omega,by rw [c5];exact a9,by rw [c5];exact a10,by rw [c6];exact a11,by rw [c6];exact a12,by rw [c1];exact a13⟩
 have h2:=h1.delT (1,b.fn);dsimp only;obtain ⟨s1,hs1⟩:∃ s1,(s.setG b.fn (calledG g s.now (busy s.F b.fn == 0))).delT (1,b.fn)=s1:=⟨_,rfl⟩;rw [hs1] at h2;rw [hs1];have hb1:s1.bx i=some b:=by rw [←hs1];exact hb
 have hn1:s1.now=s.now:=by rw [←hs1];rfl
 have h3:Inv K e ({ s1 with F:=begF s1.A s1.F b.fn }:St):={ h2 with }
 have h4:=h3.hold (b:=b) hb1 hu;rw [show (({ s1 with F:=begF s1.A s1.F b.fn }:St).hold i).B i=b from St.B_of hb1,←hn1]
 exact h4.nxB (k:=0) (b:=b) hb1 hu (by decide) ⟨fun p hp=>hold_ca (s:={ s1 with F:=begF s1.A s1.F b.fn }) hb1 p hp,hold_T⟩
theorem Inv.cold {K:Nat} {s:St} (h:Inv (K+1) 0 s) {f:Int} {g:Fu} (eg:s.fu.a f=some g):Inv K 0 (s.cold f).1:=by
 unfold St.cold;rw [St.G_of eg];dsimp only
 split
 ·exact h.mono (by omega) (Nat.le_refl _)
 ·obtain ⟨h1,h2,h3,_⟩:=h.room g.mem
  cases q:s.room g.mem with
  | mk s1 o =>
   rw [q] at h1 h2 h3
   cases o with
   | none=>exact h1.mono (by omega) (Nat.le_refl _)
   | some x =>
    obtain ⟨k1,k2⟩:=h2 x rfl;obtain ⟨g',eg',_,hm,_⟩:=h3 f g eg;have hf:=h.fu _ _ eg;obtain ⟨s2,hs2⟩:∃ s2:St,({ s1 with tk:=s1.tk.set g.acc (((s.tk.a g.acc).getD (0,0,0)).1,((s.tk.a g.acc).getD (0,0,0)).2.1,((s.tk.a g.acc).getD (0,0,0)).2.2-1) }:St)=s2:=⟨_,rfl⟩;have h4:Inv (K+1) 0 s2:=by rw [←hs2];exact h1.tkS _ (by omega)
    have e2:s2.fu.a f=some g':=by rw [←hs2];exact eg'
    have e3:s2.H=s1.H:=by rw [←hs2]
    have h5:=h4.boot e2 (by rw [e3];exact k1) (by rw [e3,hm];exact k2)
    dsimp only;rw [hs2];have hb:(s2.boot f x).bx (s2.boot f x).last=some ⟨s2.last+1,f,x,(s2.G f).mem,.boot,false,s2.now⟩:=updZ_same _ _ _;exact h5.begin hb rfl rfl
theorem fresh_of {s:St} {f i:Int} (h:s.fresh f=some i):Fresh s f i:=by
 unfold St.fresh at h
 split at h
 ·cases h;rename_i q;exact q.choose_spec
 ·cases h
theorem Inv.fresh {K e:Nat} {s:St} (h:Inv K e s) {f i:Int} {g:Fu} (eg:s.fu.a f=some g) (hi:s.fresh f=some i):∃ b,s.bx i=some b∧upQ b.q=true∧b.fn=f∧b.q=.warm:=by
 obtain ⟨h1,h2,_⟩:=fresh_of hi;rw [St.G_of eg] at h1
 have:∃ b,s.bx i=some b∧upQ b.q=true∧b.fn=f:=by
  rcases h1 with h1 | h1
  ·exact h.pi f g i eg h1
  ·exact h.lo f g i eg h1
 obtain ⟨b,hb,hu,hf⟩:=this;rw [St.B_of hb] at h2;refine ⟨b,hb,hu,hf,?_⟩
 cases r:b.q <;> rw [r] at h2 <;> first | rfl | cases h2
theorem Inv.call {K:Nat} {s:St} (h:Inv (K+1) 0 s) (f:Int):Inv K 0 (s.call f).1:=by
 unfold St.call;have h0:Inv K 0 s:=h.mono (by omega) (Nat.le_refl _)
 split
 ·rename_i hf
  obtain ⟨g,eg⟩:=Option.isSome_iff_exists.1 hf
  split
  ·exact h0
  ·split
   ·exact h0
   ·cases q:s.fresh f with
    | none=>exact h.cold eg
    | some i =>
     obtain ⟨b,hb,hu,hbf,_⟩:=h.fresh eg q;exact h0.begin hb hu hbf
 ·exact h0
theorem Inv.ansI {K:Nat} {s:St} (h:Inv (K+64064) 0 s) {ev:Ev} (hp:0≤ev.n∧0≤ev.a∧0≤ev.p):Inv K 0 (s.answer ev).1:=by
 unfold St.answer
 split
 ·have h1:Inv (K+1) 0 s:=h.mono (by omega) (Nat.le_refl _)
  exact h1.call _
 ·dsimp only
  unfold St.turn;have h1:Inv (K+1000) 0 s:=h.mono (by omega) (Nat.le_refl _)
  have h2:Inv (K+64000) 0 s:=h.mono (by omega) (Nat.le_refl _)
  split
  ·exact (h.mono (by omega) (Nat.le_refl _)).account _
  ·split
   ·exact h1.func hp
   ·split
    ·exact h2.addHost _ _
    ·split
     ·exact h2.drain _
     ·split
      ·exact h2.fail _
      ·split
       ·exact h1.tend _
       ·dsimp only;exact h.tick
theorem Inv.act {K:Nat} {s:St} (h:Inv (K+64064) 0 s) {ev:Ev} (hp:0≤ev.n∧0≤ev.a∧0≤ev.p):Inv K 0 (s.act ev).1:=by
 unfold St.act;dsimp only;exact Inv.clrOut (h.ansI hp)
theorem Inv.zero {K:Nat} (hK:K<536870912):Inv K 0 St.zero:=by
 have z:∀ {α:Type} (i:Int),(Tb.nil:Tb α).a i=none:=fun _=>rfl;refine ⟨⟨Int.le_refl 0,by show (0:Int)≤1099511627776;omega⟩,⟨Int.le_refl 0,by show (0:Int)+K<536870912;omega⟩,Cnt.zero,Cnt.zero,Cnt.zero,Cnt.zero,Cnt.zero,Cnt.zero,Nat.le_refl 0,?_,fun _=>rfl,?_,?_,?_,?_,?_,?_,?_,?_,?_,?_,?_,?_,?_,?_⟩
 all_goals (intros;first | (rename_i h;cases h) | (rename_i h _;cases h) | (rename_i h _ _;cases h))
end Go.Proofs.YthdengocipfgiaaGreat.W.C
