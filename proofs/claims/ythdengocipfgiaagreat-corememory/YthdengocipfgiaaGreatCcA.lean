import Derived.Test.YthdengocipfgiaaGreatCbG
import Derived.Test.YthdengocipfgiaaGreatCbH
/- A part of what core's laws stand on. -/
set_option linter.unusedVariables false
set_option linter.unusedSimpArgs false
set_option maxRecDepth 100000
set_option maxHeartbeats 3200000
namespace Go.Proofs.YthdengocipfgiaaGreat.W.C
open Go.RowKit Go.Proofs.YthdengocipfgiaaGreat.W
theorem keep_fewer {s:St} {f:Int} {g:Fu} (eg:s.fu.a f=some g) (h:g.keep<(g.pi.n:Int)):s.keep f=s.fewer f (s.now+g.win.2.2) ((ups g.pi s.last).drop g.keep.toNat).reverse:=by
 unfold St.keep;rw [St.G_of eg,if_pos h]
theorem keep_more {s:St} {f:Int} {g:Fu} (eg:s.fu.a f=some g) (h:(g.pi.n:Int)<g.keep):s.keep f=s.more f:=by
 unfold St.keep;rw [St.G_of eg,if_neg (by omega),if_pos h]
theorem keep_same {s:St} {f:Int} {g:Fu} (eg:s.fu.a f=some g) (h:(g.pi.n:Int)=g.keep):s.keep f=s:=by
 unfold St.keep;rw [St.G_of eg,if_neg (by omega),if_neg (by omega)]
abbrev Tb_ (w:World) (own:Nat→Option Tag) (y:Lay) (s':St) (w':World):Prop:=∃ b,To w own (y.at_ b) s' w'
theorem c_keep {w:World} {own:Nat→Option Tag} {y:Lay} {s:St} (h:Cor w own y s) {f:Int} {gf:Fu} (eg:s.fu.a f=some gf) {K:Nat} (hI:Inv (K+1000) 0 s) :
  Calls Tryz.prog 79 #[ptr y.c,ptr (y.fb f)] w fun e w'=>e=.returned (.tuple #[])∧Tb_ w own y (s.keep f) w':=by
 have bg:=hI.fu f gf eg;have hcnt:=hI.cnt eg;have HEG:=Lib.hid eg;have H0:=Lib.hid h;obtain ⟨pn,hpn⟩:∃ pn:Int,(gf.pi.n:Int)=pn:=⟨_,rfl⟩;obtain ⟨kk,hkk⟩:∃ kk,gf.keep=kk:=⟨_,rfl⟩;have hk1:kk≤1000:=by omega
 have q10:=h.g10 eg;have q4:=h.g4 eg;have ql:=fun ty=>h.gpn eg ty;have ql1:=fun j ty=>(h.drewN j).gpn eg ty;have ql2:=fun ty=>h.drew.gpn eg ty;rw [hkk] at q4;rw [hpn] at ql;rw [hpn] at ql1;rw [hpn] at ql2;have HPN:=Lib.hid hpn;have HKK:=Lib.hid hkk
 rcases Int.lt_trichotomy kk pn with hlt | heq | hlt
 ·have d:decide (pn > kk)=true:=decide_eq_true hlt
  have KF:=Lib.hid (fun j=>c_fewer iv4 (h.drewN j) eg hI (by rw [←hcnt,hkk,hpn];exact hlt))
  have HE:=Lib.hid (keep_fewer eg (by rw [hkk,hpn];exact hlt))
  clear hlt hpn hkk hk1 bg hcnt eg hI h
  go_enter Tryz.func79,Tryz.ntmps79
  go_wp2_with fail
  go_quiet (fail)
  go_wp2_with fail
  with_reducible refine (KF.out _).mono ?_
  rintro e w2 ⟨rfl,own2,h2,n2⟩;clear q10 q4 ql ql1 ql2 d KF;go_wp2_with fail
  go_end0
  exact ⟨rfl,y.bx,own2,by rw [HE.out];exact h2,Nx.trans ⟨(Only.refl _ _).drewN _,fun _ q=>Or.inl q⟩ n2⟩
 ·subst heq
  have d:decide (kk > kk)=false:=by simp
  have d2:decide (kk<kk)=false:=by simp
  have HE:=Lib.hid (keep_same eg (by rw [hkk,hpn]))
  clear hpn hkk hk1 bg hcnt eg hI
  go_enter Tryz.func79,Tryz.ntmps79
  go_wp2_with fail
  go_quiet (fail)
  go_wp2_with fail
  go_quiet (fail)
  go_wp2_with fail
  go_end0
  exact ⟨rfl,y.bx,own,by rw [HE.out];exact (h.drewN _).drewN _,((Only.refl _ _).drewN _).drewN _,fun _ q=>Or.inl q⟩
 ·have d:decide (pn > kk)=false:=by simp;omega
  have d2:decide (pn<kk)=true:=decide_eq_true hlt;have KM:=Lib.hid (fun j=>c_more iv4.v (h.drewN j) eg (K:=K) (hI.mono (by omega) (Nat.le_refl _)))
  have HE:=Lib.hid (keep_more eg (by rw [hkk,hpn];exact hlt))
  clear hlt hpn hkk hk1 bg hcnt eg hI h
  go_enter Tryz.func79,Tryz.ntmps79
  go_wp2_with fail
  go_quiet (fail)
  go_wp2_with fail
  go_quiet (fail)
  go_wp2_with fail
  with_reducible refine (KM.out _).mono ?_
  rintro e w2 ⟨rfl,b,own2,h2,n2⟩;clear q10 q4 ql ql1 ql2 d d2 KM;go_wp2_with fail
  go_end0
  exact ⟨rfl,b,own2,by rw [HE.out];exact h2,Nx.trans ⟨(Only.refl _ _).drewN _,fun _ q=>Or.inl q⟩ n2⟩
theorem keepAll_some {s:St} {n:Nat} {g:Fu} (h:(s.keepAll n).fu.a (n:Int)=some g):s.keepAll (n+1)=(s.keepAll n).keep (n:Int):=by
 rw [St.keepAll,h];rfl
theorem keepAll_none {s:St} {n:Nat} (h:(s.keepAll n).fu.a (n:Int)=none):s.keepAll (n+1)=s.keepAll n:=by
 rw [St.keepAll,h];rfl
theorem Inv.keepN {K:Nat} {s:St} (h:Inv (K+64000) 0 s) {n:Nat} (hn:n≤64):Inv (K+1000*(64-n)) 0 (s.keepAll n):=Inv.keepAll n (h.mono (by omega) (Nat.le_refl _))
theorem c_keepAll {w:World} {own:Nat→Option Tag} {y:Lay} {s:St} (h:Cor w own y s) {K:Nat} (hI:Inv (K+64000) 0 s) :
  Calls Tryz.prog 82 #[ptr y.c] w fun e w'=>e=.returned (.tuple #[])∧Tb_ w own y (s.keepAll 64) w':=by
 have HI:=Lib.hid (fun n (hn:n≤64)=>hI.keepN hn);clear hI
 go_enter Tryz.func82,Tryz.ntmps82
 go_wp2_with fail
 go_loopg [5] 64 (fun gk v5 wr=>∃ (n:Nat) (bx:Int→Nat) (own':Nat→Option Tag),v5=.int .i64 (n:Int)∧Hid (n+gk=64)∧Cor wr own' (y.at_ bx) (s.keepAll n)∧Hid (Nx w own wr own'))
 case atStart=>exact ⟨0,y.bx,own,rfl,Lib.hid rfl,h,Lib.hid (Nx.refl _ _)⟩
 case round =>
  clear h;obtain ⟨n,bx,own',rfl,HG,hr,HN⟩:=hrel
  by_cases hn:n<64
  ·have hnI:(n:Int)<64:=by omega
   have HNL:=Lib.hid hn;have hI:=HI.out n (by omega)
   have hwf:(KL (n:Int)).wf=true:=wfK (by omega) (by omega)
   have q4:=hr.c4
   cases hg:(s.keepAll n).fu.a (n:Int) with
   | none =>
    have HE:=Lib.hid (keepAll_none hg);have ql:=hr.lfN hg hwf;have ql1:=fun j=>(hr.drewN j).lfN hg hwf;have ql2:=hr.drew.lfN hg hwf;clear hg hI hn;go_wp2_with fail
    go_roundg (64-n-1)
    case measure=>have:=HG.out;have:=HNL.out;omega
    case rel=>exact ⟨n+1,bx,own',by go_num,Lib.hid (by have:=HNL.out;omega),by rw [HE.out];first | exact hr | exact hr.drewN _,HN⟩
   | some g =>
    have HE:=Lib.hid (keepAll_some hg);have ql:=hr.lfK hg hwf;have ql1:=fun j=>(hr.drewN j).lfK hg hwf;have ql2:=hr.drew.lfK hg hwf;obtain ⟨K1,hK1⟩:∃ K1,K+1000*(64-n)=K1+1000:=⟨K+1000*(63-n),by omega⟩
    rw [hK1] at hI;have KK:=Lib.hid (fun (W:World) (o:Nat→Option Tag) (hc:Cor W o (y.at_ bx) (s.keepAll n))=>c_keep hc hg hI);clear hg hI hn hK1;go_wp2_with fail
    with_reducible refine (KK.out _ _ hr).mono ?_
    rintro e w2 ⟨rfl,b2,own2,h2,n2⟩;have NX2:Hid (Nx w own w2 own2):=Lib.hid (HN.out.trans n2);clear n2 KK q4 ql ql1 ql2 hr;go_wp2_with fail
    go_roundg (64-n-1)
    case measure=>have:=HG.out;have:=HNL.out;omega
    case rel=>exact ⟨n+1,b2,own2,by go_num,Lib.hid (by have:=HNL.out;omega),by rw [HE.out];exact h2,NX2⟩
  ·obtain rfl:n=64:=by have:=HG.out;omega
   go_wp2_with fail
   go_end0
   exact ⟨rfl,bx,own',hr,HN.out⟩
end Go.Proofs.YthdengocipfgiaaGreat.W.C
namespace Go.Proofs.YthdengocipfgiaaGreat.W.C
open Go.RowKit Go.Proofs.YthdengocipfgiaaGreat.W
attribute [local go_sem] Oper.semAt_some
theorem ahead_has {s:St} {f:Int} {g:Fu} (eg:s.fu.a f=some g) (h:decide (0<(g.pi.n:Int)+(g.lo.n:Int))=true):s.ahead f=s:=by
 unfold St.ahead;rw [St.G_of eg,if_pos (by have:=of_decide_eq_true h;omega)]
theorem ahead_no {s:St} {f:Int} {g:Fu} (eg:s.fu.a f=some g) (h:decide (0<(g.pi.n:Int)+(g.lo.n:Int))=false) (hf:(fit s.H g.mem).2=false):s.ahead f=s:=by
 unfold St.ahead;rw [St.G_of eg,if_neg (by have:=of_decide_eq_false h;omega),if_neg (by rw [hf];simp)]
theorem ahead_go {s:St} {f:Int} {g:Fu} (eg:s.fu.a f=some g) (h:decide (0<(g.pi.n:Int)+(g.lo.n:Int))=false) (hf:(fit s.H g.mem).2=true):s.ahead f={ s.boot f ((fit s.H g.mem).1:Int) with ah:=(s.boot f ((fit s.H g.mem).1:Int)).ah.set (s.last+1) g.unt }:=by
 unfold St.ahead;rw [St.G_of eg,if_neg (by have:=of_decide_eq_false h;omega),if_pos hf]
theorem fit_is {H:Int→Option Ht} {m:Int} (hf:(fit H m).2=true):upB H ((fit H m).1:Int)=true∧m≤fr H ((fit H m).1:Int):=by
 unfold fit at hf ⊢
 split at hf
 ·cases hf
 ·rw [if_neg (by assumption)]
  have:=(fitT_some H m 32 hf).2.1
  unfold fits at this
  simpa using this
theorem c_ahead {w:World} {own:Nat→Option Tag} {y:Lay} {s:St} (h:Cor w own y s) {f:Int} {g:Fu} (eg:s.fu.a f=some g) {K:Nat} (hI:Inv (K+1) 0 s) :
  Calls Tryz.prog 94 #[ptr y.c,ptr (y.fb f)] w fun e w'=>e=.returned (.tuple #[])∧Tb_ w own y (s.ahead f) w':=by
 have N0:=Nx.refl w own;have h0:=h;clear h;have B:=hI.bd (by omega)
 have kh:=c_has h0 B eg;obtain ⟨hv,hhv⟩:∃ hv,decide (0<(g.pi.n:Int)+(g.lo.n:Int))=hv:=⟨_,rfl⟩;rw [hhv] at kh;have KH:=Lib.hid kh;clear kh
 cases hv with
 | true =>
  have HE:=Lib.hid (ahead_has eg hhv);clear hhv
  go_enter Tryz.func94,Tryz.ntmps94
  go_wp2_with fail
  with_reducible refine KH.out.mono ?_
  rintro e0 w1 ⟨rfl,o1,h1,n1⟩;go_wp2_with fail
  (try simp only [Exit.inBlock,Exit.then]);refine bodyPost_ret (results_none rfl _ _ _) rfl ?_
  exact ⟨rfl,y.bx,o1,by rw [HE.out];exact h1,n1⟩
 | false =>
  obtain ⟨x,hx⟩:∃ x,((fit s.H g.mem).1:Int)=x:=⟨_,rfl⟩
  cases hf:(fit s.H g.mem).2 with
  | false =>
   have HE:=Lib.hid (ahead_no eg hhv hf);have KF:=Lib.hid (fun (W:World) (o:Nat→Option Tag) (hc:Cor W o y s)=>by have:=k_fit hc g.mem;rw [hf,hx] at this;exact this)
   clear hhv
   go_enter Tryz.func94,Tryz.ntmps94
   go_wp2_with fail
   with_reducible refine KH.out.mono ?_
   rintro e0 w1 ⟨rfl,o1,h1,n1⟩;clear h0 N0 KH;have KG:=Lib.hid (fun j=>KF.out _ _ (h1.drewN j));have q0:=h1.c5;have q1:=h1.g2 eg;go_wp2_with fail
   go_quiet ((go_at_call 112;exact Calls.quiet_of (KG.out _)))
   go_wp2_with fail
   go_end0
   exact ⟨rfl,y.bx,o1,by rw [HE.out];exact h1.drewN _,n1.trans ⟨(Only.refl _ _).drewN _,fun _ q=>Or.inl q⟩⟩
  | true =>
   have HE:=Lib.hid (ahead_go eg hhv hf);have hfi:=fit_is hf;rw [hx] at hfi HE;have KF:=Lib.hid (fun (W:World) (o:Nat→Option Tag) (hc:Cor W o y s)=>by have:=k_fit hc g.mem;rw [hf,hx] at this;exact this)
   obtain ⟨z,u,hH⟩:=upB_some hfi.1;obtain ⟨p,ep⟩:=Option.isSome_iff_exists.1 (hI.ho _ _ _ _ hH).2.2.2.2.2.1;have U:=hI.unused;have I1:Inv K 0 (s.boot f x):=hI.boot eg hfi.1 hfi.2;have B1:=I1.bd (by omega)
   have HB:=Lib.hid (fun (W:World) (o:Nat→Option Tag) (hc:Cor W o y s)=>c_boot hc B eg ep U);have hbl:=B.last;have hwi:(KL (s.last+1)).wf=true:=wfK (by omega) (by omega)
   have hml:(1073741824:Nat)<maxLen:=by decide
   have hah:(s.boot f x).ah.n<maxLen:=by have:=B1.ahn;omega
   have HAH:=Lib.hid hah;have HWI:=Lib.hid hwi;have e3:(s.boot f x).bx (s.last+1)=some ⟨s.last+1,f,x,(s.G f).mem,.boot,false,s.now⟩:=boot_bx;have eg3:∃ g3,(s.boot f x).fu.a f=some g3∧g3.unt=g.unt:=⟨_,boot_fu eg,rfl⟩;obtain ⟨g3,eg3,hg3⟩:=eg3;clear hhv hfi hx hH hI B U hbl hml hah hwi I1 B1
   go_enter Tryz.func94,Tryz.ntmps94
   go_wp2_with fail
   with_reducible refine KH.out.mono ?_
   rintro e0 w1 ⟨rfl,o1,h1,n1⟩;have N1:=N0.trans n1;clear h0 N0 n1 KH;have KG:=Lib.hid (fun j=>KF.out _ _ (h1.drewN j));have q0:=h1.c5;have q1:=h1.g2 eg;go_wp2_with fail
   go_quiet ((go_at_call 112;exact Calls.quiet_of (KG.out _)))
   clear q0 q1;have h2:=h1.drewN nq;have N2:Nx w own (w1.drewN nq) o1:=N1.trans ⟨(Only.refl _ _).drewN _,fun _ q=>Or.inl q⟩;clear h1 N1 KG KF;generalize w1.drewN nq=w2 at h2 N2 ⊢;go_wp2_with fail
   with_reducible refine (HB.out _ _ h2).mono ?_
   rintro e2 w3 ⟨blk,rfl,o3,h3,n3⟩;have N3:=N2.trans n3;clear h2 N2 n3 HB;obtain ⟨sb,hsb⟩:∃ sb:St,s.boot f x=sb:=⟨_,rfl⟩;rw [hsb] at h3 e3 eg3;have HSB:=Lib.hid hsb;clear hsb;have q2:w3.cell? ⟨y.c,8,none⟩=some (.map (some y.ma)):=h3.c8;have q3:=h3.nb0 e3;have q4:w3.cell? ⟨y.fb f,7,none⟩=some (.int .i64 g.unt):=by rw [←hg3];exact h3.g7 eg3
   go_wp2_with fail
   go_still_tail 12,(by kernel_rfl)
   change wpList _ _ _ _ _ w3.drew;have h4:=h3.drew;have N4:=N3.drew;clear q2 q3 q4;generalize w3.drew=w4 at h4 N4 ⊢;clear h3 N3;refine wpList_mp_set rfl (.tmp 29) (.tmp 33) (.tmp 37) 58 rfl 3 2 Tryz.underlying3 Tryz.underlying58 _ _ _ rfl (h4.ob .ma).2 (by rw [←HSB.out];exact HAH.out) (s.last+1) rfl HWI.out (.int .i64 g.unt) rfl _ rfl ?_
   intro w5 m5 g5;obtain ⟨h5,n5⟩:=Cor.ma h4 (MpT.set (v:=g.unt) m5) g5;have N5:=N4.trans n5;clear N4 n5 h4 m5 g5;go_wp2_with fail
   go_end0
   refine ⟨rfl,((y.withB (s.last+1) blk)).bx,_,?_,N5⟩;rw [HE.out,HSB.out];exact h5
theorem c_dueF {w:World} (b:Nat):Calls Tryz.prog 93 #[ptr b] w fun e w'=>e=.returned (.func (.func 135) #[] #[ptr w.heap.size])∧w'=w.alloc (.cells #[ptr b] 24):=by
 go_enter Tryz.func93,Tryz.ntmps93
 go_wp2
 go_ret
 exact ⟨rfl,rfl⟩
noncomputable def St.step (s:St) (k:HT.K):St:=if k.1=0 then (s.delT k).kill k.2 else if k.1=1 then (s.delT k).ahead k.2 else s.delT k
theorem Due.uniq {s:St} {k k':HT.K} (h:Due s k) (h':Due s k'):k=k':=by
 obtain ⟨t,h1,_⟩:=h;obtain ⟨t',h2,_⟩:=h';exact (h1.uniq h2).1
theorem next_some {s:St} {k:HT.K} (h:Due s k):s.next=some k:=by
 have hx:∃ k,Due s k:=⟨k,h⟩;unfold St.next;rw [dif_pos hx,hx.choose_spec.uniq h]
theorem next_none {s:St} (h:∀ k,¬ Due s k):s.next=none:=by
 unfold St.next;rw [dif_neg (fun ⟨k,q⟩=>h k q)]
theorem dues_stop {s:St} (h:∀ k,¬ Due s k) (n:Nat):s.dues n=s:=by
 cases n with
 | zero=>rfl
 | succ n=>rw [St.dues,next_none h]
theorem dues_step {s:St} {k:HT.K} (h:Due s k) (n:Nat):s.dues (n+1)=(s.step k).dues n:=by
 rw [St.dues,next_some h];rfl
theorem kill_tn {s:St} {i:Int}:(s.kill i).tn≤s.tn:=by
 have hl:∀ (s2:St) (x:Int),(s2.leave x).tn=s2.tn:=fun s2 x=>by unfold St.leave;split <;> rfl
 show (s.gone i).tn≤_;unfold St.gone;dsimp only;rw [hl]
 have hh:(s.hold i).tn≤s.tn:=by
  show (if (s.T (0,i)).isSome then s.tn-1 else s.tn)≤s.tn
  split <;> omega
 split
 ·exact hh
 ·exact hh
theorem ahead_tn {s:St} {f:Int}:(s.ahead f).tn=s.tn:=by
 unfold St.ahead;split
 ·rfl
 ·split <;> rfl
theorem step_tn {K e:Nat} {s:St} (h:Inv K e s) {k:HT.K} (hd:Due s k):(s.step k).tn+1≤s.tn:=by
 obtain ⟨t,⟨ht,_⟩,_⟩:=hd;have h1:=h.cT.pos (k:=k) (by rw [ht];rfl)
 have h2:(s.delT k).tn=s.tn-1:=by unfold St.delT;dsimp only;rw [ht];rfl
 unfold St.step
 split
 ·have:=kill_tn (s:=s.delT k) (i:=k.2);omega
 ·split
  ·rw [ahead_tn];omega
  ·omega
theorem Inv.due {K:Nat} {s:St} (h:Inv (K+btN s.T) 0 s) {k:HT.K} (hd:Due s k) :
  (k.1=0∧(∃ b,s.bx k.2=some b∧upQ b.q=true)∧btN ((s.delT k).kill k.2).T=btN s.T∧Inv (K+btN s.T) 0 (s.delT k)) ∨
  (k.1=1∧(∃ g,s.fu.a k.2=some g)∧btN ((s.delT k).ahead k.2).T+1=btN s.T∧Inv (K+btN s.T) 0 (s.delT k)):=by
 obtain ⟨t,⟨ht,_⟩,_⟩:=hd;have h1:=h.delT k;have key:∀ j,(s.delT k).T j=if j=k then none else s.T j:=fun j=>updT_at _ _ _ _
 obtain ⟨k1,k2⟩:=k
 by_cases hk:k1=0
 ·subst hk
  obtain ⟨b,hb,hw,_⟩:=h.T0 k2 t ht;exact Or.inl ⟨rfl,⟨b,hb,warm_up hw⟩,btN_ext (T:=s.T) (fun f=>by rw [kill_T1,key,if_neg k10]),h1⟩
 ·obtain ⟨q1,q2⟩:=h.T1 _ t ht hk
  have q1:k1=1:=q1;subst q1;obtain ⟨g,eg⟩:=Option.isSome_iff_exists.1 q2;have hf:=h.fu _ _ eg;have hbt:=btN_out (T:=s.T) (T':=(s.delT (1,k2)).T) (f:=k2) ⟨hf.1,hf.2.1⟩ (by rw [ht];rfl) (by rw [key,if_pos rfl];rfl) (fun j hj=>by rw [key,if_neg (fun e=>hj (by cases e;rfl))])
  exact Or.inr ⟨rfl,⟨g,eg⟩,by rw [ahead_T];exact hbt,h1⟩
theorem Inv.step {K:Nat} {s:St} (h:Inv (K+btN s.T) 0 s) {k:HT.K} (hd:Due s k):Inv (K+btN (s.step k).T) 0 (s.step k):=by
 rcases h.due hd with ⟨h1,⟨b,hb,hu⟩,h3,h4⟩ | ⟨h1,⟨g,hg⟩,h3,h4⟩
 ·unfold St.step
  rw [if_pos h1,h3];exact h4.kill (b:=b) hb hu
 ·unfold St.step
  rw [if_neg (by omega),if_pos h1]
  rw [←h3,←Nat.add_assoc] at h4;exact h4.ahead hg
theorem k_nx {w:World} {own:Nat→Option Tag} {y:Lay} {s:St} (h:Cor w own y s) (hn:s.tn<1073741824):Calls Tryz.prog 136 #[ptr y.t,.int .i64 s.now] w fun e w'=>∃ (k1 k2:Int) (b:Bool),e=.returned (.tuple #[.agg #[.int .i64 k1,.int .i64 k2],.bool b]) ∧
  ((b=true∧Due s (k1,k2)∧To w own y (s.delT (k1,k2)) w')∨(b=false∧(∀ k,¬ Due s k)∧To w own y s w')):=by
 refine (HT.x_next _ _ _ _ _ s.now hn (h.ob .tim)).mono ?_;rintro e w' ⟨k,b,C,n',rfl,hx,hn',X',h1,h2,h3⟩;refine ⟨k.1,k.2,b,rfl,?_⟩
 rcases hx with ⟨rfl,hd,rfl⟩ | ⟨rfl,_,rfl,h0⟩
 ·refine Or.inl ⟨rfl,hd,?_⟩
  obtain ⟨t,hF,_⟩:=hd;refine (To.of (h.tim h1 h2 h3)).cast ?_;have:n'=s.tn-1:=by simp at hn';omega
  unfold St.delT;rw [hF.1,this];rfl
 ·refine Or.inr ⟨rfl,?_,?_⟩
  ·rintro k ⟨t,⟨ht,_⟩,hle⟩
   have:=h0 k t ht;omega
  ·refine (To.of (h.tim h1 h2 h3)).cast ?_
   have:n'=s.tn:=by simp at hn';omega
   rw [this]
theorem Nl.transN {l:Nat} {w w1 w2:World} {o o1 o2:Nat→Option Tag} (h:Nl l w o w1 o1) (k:Nl l w1 o1 w2 o2) (hl:l<w.heap.size):Nl l w o w2 o2 :=
 ⟨h.only.trans k.only (fun j q=>q.elim (fun q=>(h.new j q).imp Or.inl id) (fun q=>Or.inl (Or.inr q))),fun j q=>(k.new j q).elim (h.new j) (fun q=>Or.inr (by have:=h.only.size;omega))⟩
def boxC (y:Lay):Obj:=.cells #[ptr y.c] 24 (0,0)
def keyO (k:HT.K):Obj:=.cells #[.int .i64 k.1,.int .i64 k.2] 77 (0,0)
def DuRounds (K:Nat) (W6:World) (own:Nat→Option Tag) (y:Lay) (l:Nat) (ready:Loop):Prop :=
 ∀ (sk:St) (k1 k2:Int) (bx:Int→Nat) (W:World) (oW:Nat→Option Tag),Inv (K+btN sk.T) 0 sk→Due sk (k1,k2)→Cor W oW (y.at_ bx) (sk.delT (k1,k2))→Nl l W6 own W oW→W.heap[l]?=some (.loop ready)→oW l=none →
  ∃ fn' tmps' assign' body',(Instr.yield l #[.agg #[.int .i64 k1,.int .i64 k2]]).run Tryz.prog W=.ok (.round l fn' tmps' assign' body') W∧RoundIn Fence.wide 3 Tryz.prog l fn' tmps' assign' body' W fun e W' =>
   e=.returned (.bool true)∧W'.heap[l]?=some (.loop ready)∧∃ bx' o',Cor W' o' (y.at_ bx') (sk.step (k1,k2))∧Nl l W oW W' o'∧o' l=none
theorem key_put {w:World} {b:Nat} {x0 x1 v0 v1:Value} {T:TypeId} (h:w.heap[b]?=some (.cells #[x0,x1] T (0,0))) :
  ((w.setCell ⟨b,0,none⟩ v0).setCell ⟨b,1,none⟩ v1).heap[b]?=some (.cells #[v0,v1] T (0,0))∧Only w ((w.setCell ⟨b,0,none⟩ v0).setCell ⟨b,1,none⟩ v1) (fun j=>j=b):=by
 have h1:(w.setCell ⟨b,0,none⟩ v0).heap[b]?=some (.cells #[v0,x1] T (0,0)):=set_rowL (cs:=[x0,x1]) h 0 v0;have h2:((w.setCell ⟨b,0,none⟩ v0).setCell ⟨b,1,none⟩ v1).heap[b]?=some (.cells #[v0,v1] T (0,0)):=set_rowL (cs:=[v0,x1]) h1 1 v1;have o1:Only w (w.setCell ⟨b,0,none⟩ v0) (fun j=>j=b):=Only.grown (grown_set w 0 b 0 v0) (Or.inl rfl);have o2:Only (w.setCell ⟨b,0,none⟩ v0) ((w.setCell ⟨b,0,none⟩ v0).setCell ⟨b,1,none⟩ v1) (fun j=>j=b):=Only.grown (grown_set (w.setCell ⟨b,0,none⟩ v0) 0 b 1 v1) (Or.inl rfl);exact ⟨h2,o1.trans o2 (fun j q=>Or.inl q)⟩
abbrev keyZ:Obj:=.cells #[.int .i64 0,.int .i64 0] 77
def Told (w:World) (own:Nat→Option Tag) (y:Lay) (s:St) (k1 k2:Int) (b:Bool) (H:Nat) (W:World):Prop :=
 W.heap[H]?=some (keyO (k1,k2))∧w.heap.size≤H∧∃ o,Nx w own W o∧o H=none∧((b=true∧Due s (k1,k2)∧Cor W o y (s.delT (k1,k2)))∨(b=false∧(∀ k,¬ Due s k)∧Cor W o y s))
theorem told_a {w w3:World} {own:Nat→Option Tag} {y:Lay} {s:St} {k1 k2:Int} {b:Bool} (hev:(b=true∧Due s (k1,k2)∧To w.drew own y (s.delT (k1,k2)) w3)∨(b=false∧(∀ k,¬ Due s k)∧To w.drew own y s w3)) :
  Told w own y s k1 k2 b w3.heap.size (w3.alloc (.cells #[.int .i64 k1,.int .i64 k2] 77)):=by
 have hb:Below w3.heap.size w3 (w3.alloc (.cells #[.int .i64 k1,.int .i64 k2] 77)):=(Below.refl _ _).alloc (Nat.le_refl _) _;have hd:Nx w own w.drew own:=⟨(Only.refl _ _).drewN 1,fun _ q=>Or.inl q⟩
 rcases hev with ⟨q1,q2,o2,h2,n2⟩ | ⟨q1,q2,o2,h2,n2⟩
 ·exact ⟨heap_alloc_new w3 _,n2.only.size,o2,(hd.trans n2).trans (Nx.below o2 hb),h2.fresh (Nat.le_refl _),Or.inl ⟨q1,q2,h2.alloc _⟩⟩
 ·exact ⟨heap_alloc_new w3 _,n2.only.size,o2,(hd.trans n2).trans (Nx.below o2 hb),h2.fresh (Nat.le_refl _),Or.inr ⟨q1,q2,h2.alloc _⟩⟩
theorem told_b {w w3:World} {own:Nat→Option Tag} {y:Lay} {s:St} {k1 k2:Int} {b:Bool} (h:Cor w own y s) (hev:(b=true∧Due s (k1,k2)∧To (w.alloc keyZ).drew own y (s.delT (k1,k2)) w3)∨(b=false∧(∀ k,¬ Due s k)∧To (w.alloc keyZ).drew own y s w3)) :
  Told w own y s k1 k2 b w.heap.size ((w3.setCell ⟨w.heap.size,0,none⟩ (.int .i64 k1)).setCell ⟨w.heap.size,1,none⟩ (.int .i64 k2)):=by
 have hb:Below w.heap.size w (w.alloc keyZ).drew:=below_drewN ((Below.refl _ w).alloc (Nat.le_refl _) keyZ) 1;have h0:=h.fresh (Nat.le_refl w.heap.size);have hl:w.heap.size<(w.alloc keyZ).drew.heap.size:=by show w.heap.size<(w.alloc keyZ).heap.size;rw [World.size_alloc];omega
 rcases hev with ⟨q1,q2,o2,h2,n2⟩ | ⟨q1,q2,o2,h2,n2⟩
 ·have hz:=n2.blk h0 (heap_alloc_new w keyZ)
  have ho:=n2.none h0 hl;obtain ⟨k3,k4⟩:=key_put (v0:=.int .i64 k1) (v1:=.int .i64 k2) hz;exact ⟨k3,Nat.le_refl _,o2,((Nx.below own hb).trans n2).side k4 (fun j q=>by omega),ho,Or.inl ⟨q1,q2,h2.side k4 (fun j q=>by rw [q];exact ho)⟩⟩
 ·have hz:=n2.blk h0 (heap_alloc_new w keyZ)
  have ho:=n2.none h0 hl;obtain ⟨k3,k4⟩:=key_put (v0:=.int .i64 k1) (v1:=.int .i64 k2) hz;exact ⟨k3,Nat.le_refl _,o2,((Nx.below own hb).trans n2).side k4 (fun j q=>by omega),ho,Or.inr ⟨q1,q2,h2.side k4 (fun j q=>by rw [q];exact ho)⟩⟩
theorem told_z {w w3:World} {own:Nat→Option Tag} {y:Lay} {s:St} {k1 k2:Int} {b:Bool} (h:Cor w own y s) (hev:(b=true∧Due s (k1,k2)∧To (w.alloc keyZ).drew own y (s.delT (k1,k2)) w3)∨(b=false∧(∀ k,¬ Due s k)∧To (w.alloc keyZ).drew own y s w3)):w3.heap[w.heap.size]?=some (.cells #[.int .i64 0,.int .i64 0] 77 (0,0)):=by
 have h0:=h.fresh (Nat.le_refl w.heap.size)
 rcases hev with ⟨_,_,o2,h2,n2⟩ | ⟨_,_,o2,h2,n2⟩ <;> exact n2.blk h0 (heap_alloc_new w keyZ)
theorem Nl.transH {l x:Nat} {w w1 w2:World} {o o1 o2:Nat→Option Tag} (h:Nl l w o w1 o1) (k:Nl x w1 o1 w2 o2) (hx:w.heap.size≤x):Nl l w o w2 o2 :=
 ⟨h.only.trans k.only (fun j q=>q.elim (fun q=>(h.new j q).imp Or.inl id) (fun q=>Or.inr (by omega))),fun j q=>(k.new j q).elim (h.new j) (fun q=>Or.inr (by have:=h.only.size;omega))⟩
theorem due_split {w w6:World} {own:Nat→Option Tag} {y:Lay} {s:St} {j1 j2:Int} {b:Bool} (hev:(b=true∧Due s (j1,j2)∧To w.drew own y (s.delT (j1,j2)) w6)∨(b=false∧(∀ k,¬ Due s k)∧To w.drew own y s w6)) :
  ∃ o6,Nx w own w6 o6∧((b=true∧Due s (j1,j2)∧Cor w6 o6 y (s.delT (j1,j2)))∨(b=false∧(∀ k,¬ Due s k)∧Cor w6 o6 y s)):=by
 have hd:Nx w own w.drew own:=⟨(Only.refl _ _).drewN 1,fun _ q=>Or.inl q⟩
 rcases hev with ⟨q1,q2,o2,h2,n2⟩ | ⟨q1,q2,o2,h2,n2⟩
 ·exact ⟨o2,hd.trans n2,Or.inl ⟨q1,q2,h2⟩⟩
 ·exact ⟨o2,hd.trans n2,Or.inr ⟨q1,q2,h2⟩⟩
theorem due_end {w w6:World} {own o6:Nat→Option Tag} {y:Lay} {s:St} {j1 j2:Int} {b:Bool} {H:Nat} {x0 x1:Value} (hz:w6.heap[H]?=some (.cells #[x0,x1] 77 (0,0))) (N6:Nx w own w6 o6) (ho:o6 H=none)
  (hev:(b=true∧Due s (j1,j2)∧Cor w6 o6 y (s.delT (j1,j2)))∨(b=false∧(∀ k,¬ Due s k)∧Cor w6 o6 y s)) :
  ∃ (k1 k2:Int) (b2:Bool) (o:Nat→Option Tag),Value.bool b=.bool b2∧Hid (((w6.setCell ⟨H,0,none⟩ (.int .i64 j1)).setCell ⟨H,1,none⟩ (.int .i64 j2)).heap[H]?=some (keyO (k1,k2)))∧Hid (Nl H w own ((w6.setCell ⟨H,0,none⟩ (.int .i64 j1)).setCell ⟨H,1,none⟩ (.int .i64 j2)) o)∧Hid (o H=none) ∧
   ((b2=true∧Due s (k1,k2)∧Cor ((w6.setCell ⟨H,0,none⟩ (.int .i64 j1)).setCell ⟨H,1,none⟩ (.int .i64 j2)) o y (s.delT (k1,k2)))∨(b2=false∧(∀ k,¬ Due s k)∧Cor ((w6.setCell ⟨H,0,none⟩ (.int .i64 j1)).setCell ⟨H,1,none⟩ (.int .i64 j2)) o y s)):=by
 obtain ⟨k3,k4⟩:=key_put (v0:=.int .i64 j1) (v1:=.int .i64 j2) hz;refine ⟨j1,j2,b,o6,rfl,Lib.hid k3,Lib.hid ⟨(N6.only.mono (fun _ q=>Or.inl q)).trans k4 (fun j q=>Or.inl (Or.inr q)),N6.new⟩,Lib.hid ho,?_⟩
 rcases hev with ⟨q1,q2,q3⟩ | ⟨q1,q2,q3⟩
 ·exact Or.inl ⟨q1,q2,q3.side k4 (fun j q=>by rw [q];exact ho)⟩
 ·exact Or.inr ⟨q1,q2,q3.side k4 (fun j q=>by rw [q];exact ho)⟩
theorem c_due1 {K:Nat} {w:World} {own:Nat→Option Tag} {y:Lay} {s:St} (h:Cor w own y s) (hI:Inv (K+btN s.T) 0 s) (l Bp:Nat) (ready:Loop)
  (hBp:w.heap[Bp]?=some (boxC y)) (hoB:own Bp=none) (hne:Bp≠l) (hl:w.heap[l]?=some (.loop ready)) (hol:own l=none) (hY:DuRounds K w own y l ready) :
  Calls Tryz.prog 135 #[.func (.yield l) #[] #[],ptr Bp] w fun e W=>(∃ v,e=.returned v)∧∃ bx o',Cor W o' (y.at_ bx) (s.dues s.tn)∧Nl l w own W o'∧o' l=none∧W.heap[l]?=some (.loop ready):=by
 have htn:s.tn<1073741824:=by have:=(hI.bd (by omega)).tn;omega
 have HBP:=Lib.hid hBp;have c0:=cell_of_row _ _ 0 _ _ _ hBp;have q9:=h.c9;have q0:=h.c0;have hbl:=lt_of_row hBp;have hll:=lt_of_row hl;have HL:=Lib.hid hl;have HNE:=Lib.hid hne;have HI:=Lib.hid hI;have HFR:=Lib.hid (fun j (q:w.heap.size≤j)=>h.fresh q);clear hBp hl hne hI
 go_enter Tryz.func135,Tryz.ntmps135
 have KN1:=Lib.hid (k_nx h.drew htn);have KN2:=Lib.hid (k_nx (h.alloc keyZ).drew htn);have HH:=Lib.hid h;have e0:=keep_a c0 keyZ;have e9:=keep_a q9 keyZ;have e1:=keep_a q0 keyZ;clear h;go_wp2_with fail
 go_cut [3,4] from 5 to 16 (fun v3 v4 wc=>∃ (k1 k2:Int) (b:Bool) (H:Nat),v3=.pointer (some ⟨H,0,none⟩)∧v4=.bool b∧Hid (Told w own y s k1 k2 b H wc))
 case first =>
  go_region_with (first
   | (go_at_call 136;with_reducible refine KN1.out.mono ?_;rintro e w3 ⟨k1,k2,b,rfl,hev⟩)
   | (go_at_call 136;with_reducible refine KN2.out.mono ?_;rintro e w3 ⟨k1,k2,b,rfl,hev⟩;have hz:=told_z HH.out hev;have n0:=frozen_of_row w3 w.heap.size 0 _ _ hz;have n1:=frozen_of_row w3 w.heap.size 1 _ _ hz;have z0:=cell_of_row _ _ 0 _ _ _ hz;have z1:=cell_of_row _ _ 1 _ _ _ hz;have HZ:=Lib.hid hz;clear hz))
  all_goals (go_wp2_with fail;go_meet;first | exact ⟨k1,k2,b,_,rfl,rfl,Lib.hid (told_a hev)⟩ | exact ⟨k1,k2,b,_,rfl,rfl,Lib.hid (told_b HH.out hev)⟩)
 case rest =>
 rename World=>w3
 obtain ⟨k1,k2,b,H,rfl,rfl,HT⟩:=hcut;obtain ⟨hK2,hHs,o2,N3,ho2,hev⟩:=HT.out;have HK2:=Lib.hid hK2;have HN3:=Lib.hid N3;have HO2:=Lib.hid ho2;have HHS:=Lib.hid hHs;clear N3 ho2 hHs hK2 HT c0 q9 q0 e0 e9 e1;go_wp2_with fail
 go_loopg [3,4] s.tn (fun gk v3 v4 wr=>∃ (sk:St) (bx:Int→Nat) (ok:Nat→Option Tag) (k1 k2:Int) (b:Bool) (H:Nat),v3=.pointer (some ⟨H,0,none⟩)∧v4=.bool b∧Hid (sk.tn≤gk)∧Hid (Inv (K+btN sk.T) 0 sk)∧Hid (s.dues s.tn=sk.dues gk)∧Hid (Nl l w own wr ok)∧Hid (ok l=none)∧Hid (ok Bp=none)∧Hid (ok H=none)∧Hid (w.heap.size≤H)∧Hid (wr.heap[l]?=some (.loop ready))∧Hid (wr.heap[Bp]?=some (boxC y))∧Hid (wr.heap[H]?=some (keyO (k1,k2))) ∧
  ((b=true∧Due sk (k1,k2)∧Cor wr ok (y.at_ bx) (sk.delT (k1,k2)))∨(b=false∧(∀ k,¬ Due sk k)∧Cor wr ok (y.at_ bx) sk)))
 case atStart =>
  exact ⟨s,y.bx,o2,k1,k2,b,H,rfl,rfl,Lib.hid (Nat.le_refl _),HI,Lib.hid rfl,Lib.hid (Nl.of l HN3.out),Lib.hid (HN3.out.none hol hll),Lib.hid (HN3.out.none hoB hbl),HO2,HHS,Lib.hid (HN3.out.blk hol HL.out),Lib.hid (HN3.out.blk hoB HBP.out),HK2,hev⟩
 case round =>
  clear hev HK2 HN3 HO2 HHS;obtain ⟨sk,bx,ok,k1,k2,b,H,rfl,rfl,HTN,HIK,HC,HN,HOL,HOB,HOH,HHS,HRL,HRB,HRH,hrel⟩:=hrel
  rcases hrel with ⟨rfl,hd,hk⟩ | ⟨rfl,hno,hk⟩
  ·obtain ⟨n,hn⟩:∃ n,gk=n+1:=⟨gk-1,by have:=step_tn HIK.out hd;have:=HTN.out;omega⟩
   subst hn;obtain ⟨fn',tmps',assign',body',hy,hR⟩:=hY sk k1 k2 bx wr ok HIK.out hd hk HN.out HRL.out HOL.out;have HIS:=Lib.hid (HIK.out.step hd);have HTS:=Lib.hid (step_tn HIK.out hd);have HCS:Hid (s.dues s.tn=(sk.step (k1,k2)).dues n):=Lib.hid (by rw [HC.out];exact dues_step hd n)
   have HLH:=Lib.hid (show H≠l by have:=HHS.out;omega)
   obtain ⟨ss,hss⟩:∃ ss,sk.step (k1,k2)=ss:=⟨_,rfl⟩;rw [hss] at hR HIS HTS HCS;have y0:wr.cell? ⟨H,0,none⟩=some (.int .i64 k1):=cell_of_row _ _ 0 _ _ _ HRH.out;have y1:wr.cell? ⟨H,1,none⟩=some (.int .i64 k2):=cell_of_row _ _ 1 _ _ _ HRH.out;clear hss hd hk;go_upto_region 1 with (fail)
   refine (wpIn_wide (n:=4)).1 ?_
   gi_wp2
   refine hR.mono ?_;rintro e w4 ⟨rfl,hl4,bx4,o4,h4,n4,ho4⟩;have HL4:=Lib.hid hl4;have HO4:=Lib.hid ho4;have hRH4:=n4.blk HOH.out HLH.out HRH.out;have HRB4:=Lib.hid (n4.blk HOB.out HNE.out HRB.out);have HOB4:=Lib.hid (n4.none HOB.out (lt_of_row HRB.out));have HN4:=Lib.hid (HN.out.transN n4 hll);clear y0 y1 hR hy hl4 ho4 n4;have y0:w4.cell? ⟨H,0,none⟩=some (.int .i64 k1):=cell_of_row _ _ 0 _ _ _ hRH4;have y1:w4.cell? ⟨H,1,none⟩=some (.int .i64 k2):=cell_of_row _ _ 1 _ _ _ hRH4;clear hRH4
   gi_wp2
   go_wp2_with fail
   have hb5:Below w4.heap.size w4 (w4.alloc (.cells #[.int .i64 k1,.int .i64 k2] 77)):=(Below.refl _ _).alloc (Nat.le_refl _) _;have h5:=h4.below hb5;have HN5:=Lib.hid (HN4.out.trans (Nx.below o4 hb5));have HK5:=Lib.hid (heap_alloc_new w4 (.cells #[.int .i64 k1,.int .i64 k2] 77));have HL5:=Lib.hid ((Only.of_below (S:=fun _=>False) hb5).blk (fun q=>q) HL4.out);have HRB5:=Lib.hid ((Only.of_below (S:=fun _=>False) hb5).blk (fun q=>q) HRB4.out);have HOK5:=Lib.hid (h4.fresh (Nat.le_refl w4.heap.size));have HH5:=Lib.hid (show w.heap.size≤w4.heap.size from HN4.out.only.size)
   clear y0 y1 HN4 HL4 HRB4 hb5 h4;generalize w4.alloc (.cells #[.int .i64 k1,.int .i64 k2] 77)=w5 at h5 HN5 HK5 HL5 HRB5 ⊢;generalize w4.heap.size=H5 at HK5 HOK5 HH5 ⊢;have c5:=cell_of_row _ _ 0 _ _ _ HRB5.out;have q9:=h5.c9;have q0:=h5.c0;have htn5:ss.tn<1073741824:=by have:=(HIS.out.bd (by omega)).tn;omega
   have KN5:=Lib.hid (k_nx h5.drew htn5)
   go_cut [4] from 23 to 34 (fun v4 wc=>∃ (j1 j2:Int) (b:Bool) (o6:Nat→Option Tag),v4=.bool b∧Hid (wc.heap[H5]?=some (keyO (j1,j2)))∧Hid (Nl H5 w5 o4 wc o6)∧Hid (o6 H5=none)∧((b=true∧Due ss (j1,j2)∧Cor wc o6 (y.at_ bx4) (ss.delT (j1,j2)))∨(b=false∧(∀ k,¬ Due ss k)∧Cor wc o6 (y.at_ bx4) ss)))
   case first =>
    go_region_with ((go_at_call 136;with_reducible refine KN5.out.mono ?_;rintro e w6 ⟨j1,j2,b,rfl,hev⟩;obtain ⟨o6,N6,hev⟩:=due_split hev;have hz:w6.heap[H5]?=some (.cells #[.int .i64 k1,.int .i64 k2] 77 (0,0)):=N6.blk HOK5.out HK5.out;have n0:=frozen_of_row w6 H5 0 _ _ hz;have n1:=frozen_of_row w6 H5 1 _ _ hz;have z0:=cell_of_row _ _ 0 _ _ _ hz;have z1:=cell_of_row _ _ 1 _ _ _ hz;have HZ:=Lib.hid hz;clear hz))
    all_goals (go_wp2_with fail;go_meet;exact due_end HZ.out N6 (N6.none HOK5.out (lt_of_row HK5.out)) hev)
   case rest =>
    rename World=>w7
    obtain ⟨j1,j2,b,o6,rfl,HK7,HN7,HO7,hev⟩:=hcut;clear h5 q9 q0 c5 KN5;go_wp2_with fail
    go_roundg n
    case measure=>omega
    case rel =>
     refine ⟨ss,bx4,o6,j1,j2,b,H5,rfl,rfl,Lib.hid (by have:=HTN.out;have:=HTS.out;omega),HIS,HCS,Lib.hid (HN5.out.transH HN7.out HH5.out),Lib.hid (HN7.out.none HO4.out (lt_of_row HL5.out)),Lib.hid (HN7.out.none HOB4.out (lt_of_row HRB5.out)),HO7,HH5,Lib.hid (HN7.out.blk HO4.out (by have:=HH5.out;omega) HL5.out),Lib.hid (HN7.out.blk HOB4.out (by have:=HH5.out;omega) HRB5.out),HK7,hev⟩
  ·go_wp2
   go_end0
   refine ⟨⟨_,rfl⟩,bx,ok,?_,HN.out,HOL.out,HRL.out⟩;rw [HC.out,dues_stop hno];exact hk
end Go.Proofs.YthdengocipfgiaaGreat.W.C
