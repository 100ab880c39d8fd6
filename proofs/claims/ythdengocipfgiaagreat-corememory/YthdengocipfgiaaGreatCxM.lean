import Derived.Test.YthdengocipfgiaaGreatCdA
import Derived.Test.YthdengocipfgiaaGreatCdD
import Derived.Test.YthdengocipfgiaaGreatCdB
import Derived.Test.YthdengocipfgiaaGreatCcN
import Derived.BigQuiet
import Derived.Test.YthdengocipfgiaaGreatCdE
/- What one law of core alone stands on. -/
set_option linter.unusedVariables false
set_option linter.unusedSimpArgs false
set_option maxRecDepth 100000
set_option maxHeartbeats 6400000
namespace Go.Proofs.YthdengocipfgiaaGreat.W.C
open Go.RowKit Go.Proofs.YthdengocipfgiaaGreat.W
theorem beg_busy {A:Int→Option Nat} {F:Int→Option Fn} {x:Int} (h:mayB A F x=true) (hs:(F x).isSome=true) (f:Int):busy (begF A F x) f=if f=x then busy F x+1 else busy F f:=by
 unfold begF;rw [if_pos h];unfold busy updZ
 by_cases e:f=x
 ·rw [if_pos e,if_pos e]
  cases q:F x with
  | none=>rw [q] at hs;cases hs
  | some v=>rfl
 ·rw [if_neg e,if_neg e]
theorem beg_some (A:Int→Option Nat) (F:Int→Option Fn) (x f:Int):(begF A F x f).isSome=(F f).isSome:=by
 unfold begF
 split
 ·unfold updZ
  split
  ·rename_i e;rw [e];cases F x <;> rfl
  ·rfl
 ·rfl
end Go.Proofs.YthdengocipfgiaaGreat.W.C
namespace Go.Proofs.YthdengocipfgiaaGreat.W.C
open Go.RowKit Go.Proofs.YthdengocipfgiaaGreat.W
def updI (Z:Int→Int) (x n:Int):Int→Int:=fun j=>if j=x then n else Z j
theorem func_busy (A:Int→Option Nat) (F:Int→Option Fn) (f x n y:Int):busy (funF A F f x n) y=busy F y:=by
 unfold funF
 split
 ·unfold busy updZ
  split
  ·rename_i e;rw [e];rfl
  ·rfl
 ·rfl
theorem func_some {A:Int→Option Nat} {F:Int→Option Fn} {f x n y:Int} (h:funC A F f x n=0):(funF A F f x n y).isSome=true↔y=f∨(F y).isSome=true:=by
 unfold funF;rw [if_pos h,updZ_at]
 split
 ·rename_i e;simp [e]
 ·rename_i e;simp [e]
theorem all_mz {K:Nat} {Z:Int→Int} {s:St} (h:Inv (K+64000) 0 s) (M:Mz Z s):Mz Z (s.keepAll 64):=by
 have A:Pth s (s.keepAll 64):=Pth.keepAll (K:=K) 64 .refl (h.mono (by omega) (Nat.le_refl _))
 exact A.mz M
theorem account_mz {Z:Int→Int} {s:St} (M:Mz Z s) (e:Ev):Mz Z (s.account e).1:=by
 unfold St.account
 split
 ·exact M
 ·split
  ·exact M
  ·exact ⟨M.bz,M.fx,M.hz⟩
theorem func_mz {K:Nat} {Z:Int→Int} {s:St} (h:Inv (K+1000) 0 s) {ev:Ev} (hp:0≤ev.n∧0≤ev.a∧0≤ev.p) (M:Mz Z s):Mz Z (s.func ev).1:=by
 unfold St.func
 split
 ·rename_i hz
  unfold funE at hz
  split at hz
  ·cases hz
  ·rename_i hfn
   split at hz
   ·cases hz
   ·rename_i htk
    split at hz
    ·cases hz
    ·rename_i hst
     have hfn:isFn ev=true:=by simpa using hfn
     unfold isFn at hfn;simp only [Bool.and_eq_true,decide_eq_true_eq] at hfn;obtain ⟨⟨⟨⟨⟨⟨⟨f1,f2⟩,f3⟩,f4⟩,f5⟩,f6⟩,f7⟩,f8⟩:=hfn
     have htk:(s.tk.a ev.a).isSome=true:=by
      cases q:s.tk.a ev.a with
      | none=>rw [q] at htk;exact absurd rfl htk
      | some v=>rfl
     have hfc:funC s.A s.F ev.n ev.a ev.v=0:=by
      split at hz
      ·cases hz
      ·omega
     have hnow:=h.now;dsimp only;have h1:Inv (K+1000) 0 ({ s with F:=funF s.A s.F ev.n ev.a ev.v }:St):={ h with }
     obtain ⟨g1,hg1⟩:∃ g1:Fu,{ (s.fu.a ev.n).getD (Fu.new ev.a ev.m) with cost:=ev.c,keep:=ev.p }=g1:=⟨_,rfl⟩
     have h2:Inv (K+1000) 0 (({ s with F:=funF s.A s.F ev.n ev.a ev.v }:St).setG ev.n g1):=by
      rw [←hg1]
      cases q:s.fu.a ev.n with
      | none =>
       have e0:(none:Option Fu).getD (Fu.new ev.a ev.m)=Fu.new ev.a ev.m:=rfl;rw [e0];exact h1.newG (f:=ev.n) (g:={ Fu.new ev.a ev.m with cost:=ev.c,keep:=ev.p }) q ⟨hp.1,f1⟩ rfl rfl ⟨hp.2.1,f2,f5,f6,by show 0≤ev.c;omega,f8,hp.2.2,f4,Int.le_refl 0,by show (0:Int)≤1000;omega,Int.le_refl (-1),by show (-1:Int)≤s.now;omega,Int.le_refl 0,by show (0:Int)≤4398046511104;omega,htk⟩
      | some g =>
       have e0:(some g).getD (Fu.new ev.a ev.m)=g:=rfl;rw [e0];obtain ⟨_,_,a1,a2,_,_,a3,a4,a5,a6,a7,a8,a9,a10,a11,a12,a13⟩:=h.fu _ g q;exact h1.setG (f:=ev.n) (g:=g) (g':={ g with cost:=ev.c,keep:=ev.p }) q rfl rfl rfl ⟨a1,a2,by show 0≤ev.c;omega,f8,hp.2.2,f4,a7,a8,a9,a10,a11,a12,a13⟩
     rw [hg1];have eg:=setG_at' ({ s with F:=funF s.A s.F ev.n ev.a ev.v }:St) ev.n g1
     have A:=Pth.keep (K:=K) .refl h2 eg;refine A.mz ⟨fun f=>?_,fun f hf=>?_,M.hz⟩
     ·show busy (funF s.A s.F ev.n ev.a ev.v) f=_
      rw [func_busy];exact M.bz f
     ·show (funF s.A s.F ev.n ev.a ev.v f).isSome=true
      rw [func_some hfc]
      by_cases e:f=ev.n
      ·exact Or.inl e
      ·right
       rw [show (({ s with F:=funF s.A s.F ev.n ev.a ev.v }:St).setG ev.n g1).fu.a f=s.fu.a f from Tb.set_ne _ _ e] at hf
       exact M.fx f hf
 ·exact M
theorem addHost_mz {K:Nat} {Z:Int→Int} {s:St} (h:Inv (K+64000) 0 s) (M:Mz Z s) (x n:Int):((s.addHost x n).2=0→Mz (updI Z x n) (s.addHost x n).1)∧((s.addHost x n).2≠0→Mz Z (s.addHost x n).1):=by
 unfold St.addHost
 split
 ·rename_i hx
  refine ⟨fun _=>?_,fun q=>absurd rfl q⟩;have hc:=hx;unfold addC at hc
  split at hc
  ·cases hc
  ·rename_i hq
   split at hc
   ·cases hc
   ·rename_i hn
    have hi:isH x=true:=by
     cases q:isH x with
     | true=>rfl
     | false=>exact absurd (Or.inl q) hq
    have hr:=isH_iff.1 hi
    have hHn:s.H x=none:=by
     cases q:s.H x with
     | none=>rfl
     | some t=>rw [q] at hn;exact absurd rfl hn
    have h0:∀ i b,s.bx i=some b→upQ b.q=true→b.ho≠x:=fun i b hb hu e=>by
     have:=(h.onP i b hb hu).1
     rw [e,hHn] at this;cases this
    have hd:addH s.H x n=updZ s.H x (some (false,n.toNat,0)):=by unfold addH;rw [if_pos hx]
    have h1:=h.newPl hr h0
    have h2:=h1.hosts (x:=x) (o:=some (false,n.toNat,0)) (fun d z u q=>by
     cases q
     exact ⟨hr.1,hr.2,by omega,by omega,Nat.zero_le _,by rw [setP_at'];rfl,(useless (s:=s) h0).symm⟩) (fun q=>nomatch q)
    dsimp only;rw [hd];refine all_mz (s:=({ s with H:=updZ s.H x (some (false,n.toNat,0)) }:St).setP x Pl.new) h2 ⟨M.bz,M.fx,fun y d z u hh=>?_⟩
    have hh2:updZ s.H x (some (false,n.toNat,0)) y=some (d,z,u):=hh;rw [updZ_at] at hh2;unfold updI
    split at hh2
    ·rename_i e;cases hh2;rw [if_pos e];omega
    ·rename_i e;rw [if_neg e];exact M.hz y d z u hh2
 ·rename_i hx
  exact ⟨fun q=>absurd q hx,fun _=>M⟩
theorem drainL_mz {K:Nat} {Z:Int→Int}:∀ (l:List Int) {s:St},Inv K 0 s→l.Nodup→(∀ i ∈ l,(s.mx.a i).isSome=true)→Mz Z s→Mz Z (s.drainL l)
 | [],s,h,_,_,M=>M
 | i :: l,s,h,hn,hl,M=>by
  obtain ⟨b,hb,hu⟩:=h.alive (hl i (by simp))
  have hbx:=h.bx i b hb;obtain ⟨g,eg,_⟩:=h.onF i b hb hu;rw [List.nodup_cons] at hn;unfold St.drainL
  split
  ·exact drainL_mz l (h.unpin hb hu) hn.2 (fun j hj=>hl j (by simp [hj])) (M.box hb hbx.2.1 hbx.2.2.1 (fun j hj=>unpin_bx hb hbx.1 hj) (unpin_B hb hbx.1) rfl rfl rfl rfl rfl (fun f hf=>unpin_fu hb eg f hf))
  ·refine drainL_mz l (h.kill hb hu) hn.2 (fun j hj=>?_) (M.kill hb hbx.1 hu eg hbx.2.1 hbx.2.2.1)
   show ((s.gone i).mx.a j).isSome=true;rw [pos_of_gone hb,if_neg (fun (e:j=i)=>hn.1 (e ▸ hj))];exact hl j (by simp [hj])
theorem drain_mz {K:Nat} {Z:Int→Int} {s:St} (h:Inv (K+64000) 0 s) (M:Mz Z s) (x:Int):Mz Z (s.drain x).1:=by
 unfold St.drain
 split
 ·rename_i hx
  have hH:∃ z u,s.H x=some (false,z,u):=by
   unfold drC at hx
   cases q:s.H x with
   | none=>rw [q] at hx;simp at hx
   | some t =>
    obtain ⟨d,z,u⟩:=t;rw [q] at hx
    cases d with
    | false=>exact ⟨z,u,rfl⟩
    | true=>simp at hx
  obtain ⟨z,u,hH⟩:=hH;have hho:=h.ho _ _ _ _ hH;obtain ⟨p,ep⟩:=Option.isSome_iff_exists.1 hho.2.2.2.2.2.1;rw [St.P_of ep];have hd:drH s.H x=updZ s.H x (lv true z u):=by unfold drH;rw [hH]
  rw [hd]
  have h1:Inv (K+64000) 0 { s with H:=updZ s.H x (lv true z u) }:=h.hosts (x:=x) (o:=lv true z u) (fun d' z' u' q=>by
   unfold lv at q
   split at q
   ·cases q
   ·cases q;exact hho) (fun q=>by
   unfold lv at q
   split at q
   ·rename_i hu0
    have hu0:=hu0.2;subst hu0;exact h.free0 hH
   ·cases q)
  dsimp only
  have M1:Mz Z { s with H:=updZ s.H x (lv true z u) }:=⟨M.bz,M.fx,fun y d z' u' hh=>by
   have hh2:updZ s.H x (lv true z u) y=some (d,z',u'):=hh;rw [updZ_at] at hh2
   split at hh2
   ·rename_i e
    unfold lv at hh2
    split at hh2
    ·cases hh2
    ·cases hh2;rw [e];exact M.hz x _ _ _ hH
   ·exact M.hz y d z' u' hh2⟩
  have a1:=drainL_mz (ups p.bo s.last) h1 (ups_nodup _ _) (h.on_mx ep) M1;have h2:=(h1.drainL (ups p.bo s.last) (ups_nodup _ _) (h.on_mx ep)).leave x;exact all_mz h2 (a1.leave x)
 ·exact M
theorem goneL_mz {K:Nat} {Z:Int→Int}:∀ (l:List Int) {s:St},Inv K 0 s→l.Nodup→(∀ i ∈ l,(s.mx.a i).isSome=true)→Mz Z s→Mz Z (s.goneL l)
 | [],s,h,_,_,M=>M
 | i :: l,s,h,hn,hl,M=>by
  obtain ⟨b,hb,hu⟩:=h.alive (hl i (by simp))
  have hbx:=h.bx i b hb;obtain ⟨g,eg,_⟩:=h.onF i b hb hu;rw [List.nodup_cons] at hn;refine goneL_mz l (h.goneI hb hu) hn.2 (fun j hj=>?_) (M.gone hb hbx.1 hu eg hbx.2.1 hbx.2.2.1);rw [pos_of_gone hb,if_neg (fun (e:j=i)=>hn.1 (e ▸ hj))];exact hl j (by simp [hj])
theorem fail_mz {K:Nat} {Z:Int→Int} {s:St} (h:Inv (K+64000) 0 s) (M:Mz Z s) (x:Int):Mz Z (s.fail x).1:=by
 unfold St.fail
 split
 ·rename_i hx
  obtain ⟨t,ht⟩:=Option.isSome_iff_exists.1 hx;obtain ⟨d,z,u⟩:=t;obtain ⟨p,ep⟩:=Option.isSome_iff_exists.1 (h.ho _ _ _ _ ht).2.2.2.2.2.1;rw [St.P_of ep];obtain ⟨h1,h2⟩:=h.goneL (ups p.bo s.last) (ups_nodup _ _) (h.on_mx ep);have a1:=goneL_mz (ups p.bo s.last) h (ups_nodup _ _) (h.on_mx ep) M;dsimp only
  have hne:∀ i b,(s.goneL (ups p.bo s.last)).bx i=some b→upQ b.q=true→b.ho≠x:=fun i b hb hq e=>by
   obtain ⟨k1,k2⟩:=h2 i b hb hq;obtain ⟨_,p',ep',hbo⟩:=h.onP i b k1 hq;rw [e,ep] at ep';cases ep';have:=h.bx i b k1
   exact k2 (mem_ups.2 ⟨by omega,by omega,hbo⟩)
  have h3:=(h1.hosts (x:=x) (o:=none) (fun _ _ _ q=>nomatch q) (fun _=>hne)).leave x
  have M3:Mz Z ({ s.goneL (ups p.bo s.last) with H:=updZ (s.goneL (ups p.bo s.last)).H x none }:St):=⟨a1.bz,a1.fx,fun y d z u hh=>by
   have hh2:updZ (s.goneL (ups p.bo s.last)).H x none y=some (d,z,u):=hh;rw [updZ_at] at hh2
   split at hh2
   ·cases hh2
   ·exact a1.hz y d z u hh2⟩
  exact all_mz h3 (M3.leave x)
 ·exact M
theorem tick_mz {K:Nat} {Z:Int→Int} {s:St} (h:Inv (K+64064) 0 s) (M:Mz Z s):Mz Z s.tick:=by
 unfold St.tick
 split
 ·exact M
 ·rename_i hn
  have h1:=h.tick1 hn;dsimp only;obtain ⟨s1,hs1⟩:∃ s1:St,({ s with now:=s.now+1,tk:=⟨fun a=>(s.tk.a a).map tickB,s.tk.n⟩ }:St)=s1:=⟨_,rfl⟩;have M1:Mz Z s1:=by rw [←hs1];exact ⟨M.bz,M.fx,M.hz⟩
  rw [hs1] at h1 ⊢;have hb:=btN_le s1.T;have h2:Inv (K+64000+btN s1.T) 0 s1:=h1.mono (by omega) (Nat.le_refl _)
  have A:Pth s1 (s1.dues s.tn):=Pth.dues (K:=K+64000) _ .refl h2;have h3:Inv (K+1000*64) 0 (s1.dues s.tn):=(Inv.dues (K:=K+64000) s.tn h2).mono (by omega) (Nat.le_refl _)
  have B:Pth s1 ((s1.dues s.tn).keepAll 64):=Pth.keepAll (K:=K) 64 A h3;exact B.mz M1
theorem booted_mz {K e:Nat} {Z:Int→Int} {s:St} (h:Inv K e s) (M:Mz Z s) {i:Int} {b:Bo} (hb:s.bx i=some b) (hu:upQ b.q=true):Mz Z (s.booted i).1:=by
 obtain ⟨g,eg,_⟩:=h.onF i b hb hu;have hbx:=h.bx i b hb;unfold St.booted;rw [St.B_of hb]
 split
 ·rename_i hd
  have hs:=nx_same (k:=1) (b:=b) (now:=s.now) (by decide)
  have hr:(nx 1 b s.now).1.q.runs=b.q.runs:=by
   obtain ⟨i',f',x',m',q',p',t'⟩:=b
   cases q' <;> rfl
  have hu':=nx_up (k:=1) (now:=s.now) hu (by decide)
  obtain ⟨b',hb'⟩:∃ b',(nx 1 b s.now).1=b':=⟨_,rfl⟩;rw [hb'] at hs hr hu';rw [hb'];have hid':b'.id=i:=hs.1.trans hbx.1;have hb1:(s.setB b').bx i=some b':=setB_bx hid';have M1:Mz Z ({ s.setB b' with ah:=s.ah.del i }:St):=M.box hb hbx.2.1 hbx.2.2.1 (fun j hj=>setB_ne (by rw [hid'];exact hj)) hb1 hs.2.1 hr rfl rfl rfl (fun _ q=>q)
  dsimp only
  split
  ·exact M1.idle (b:=b') hb1 hid' hu' (by rw [hs.2.1];exact eg) hbx.2.1 hbx.2.2.1
  ·exact M1
 ·exact M
theorem done_mz {K e:Nat} {Z:Int→Int} {s:St} (h:Inv K e s) (M:Mz Z s) {i:Int} {b:Bo} (hb:s.bx i=some b) (hu:upQ b.q=true):Mz Z (s.done i).1:=by
 obtain ⟨g,eg,_⟩:=h.onF i b hb hu;have hbx:=h.bx i b hb;unfold St.done;rw [St.B_of hb]
 split
 ·rename_i hd
  have hid:=hbx.1
  have hbusy:b.q=.busy:=by
   obtain ⟨i',f',x',m',q',p',t'⟩:=b
   cases q' <;> first | rfl | (exact absurd hd (by simp [nx]))
  have hb'q:(nx 2 b s.now).1={ b with q:=.warm,t:=s.now }:=by
   obtain ⟨i',f',x',m',q',p',t'⟩:=b;have hq:q'=.busy:=hbusy;subst hq;rfl
  obtain ⟨b',hb'⟩:∃ b',(nx 2 b s.now).1=b':=⟨_,rfl⟩;rw [hb'] at hb'q;rw [hb'];have e1:b'.id=i:=by rw [hb'q];exact hid
  have e2:b'.fn=b.fn:=by rw [hb'q]
  have e4:b'.q=.warm:=by rw [hb'q]
  obtain ⟨s1,hs1⟩:∃ s1,(s.setB b').endC b.fn=s1:=⟨_,rfl⟩;have hb1:s1.bx i=some b':=by rw [←hs1];exact setB_bx e1
  have hne:∀ j,j≠i→s1.bx j=s.bx j:=fun j hj=>by rw [←hs1];exact setB_ne (by rw [e1];exact hj)
  have hF:s1.F=endF s.F b.fn:=by rw [←hs1];rfl
  have hL:s1.last=s.last:=by rw [←hs1];rfl
  have hH:s1.H=s.H:=by rw [←hs1];rfl
  have eg1:s1.fu.a b.fn=some { g with ended:=s.now }:=by
   rw [←hs1];show ((s.setB b').fu.set b.fn { (s.setB b').G b.fn with ended:=s.now }).a b.fn=_
   rw [Tb.set_at,show (s.setB b').G b.fn=g from St.G_of eg]
  have eg2:∀ f,f≠b.fn→s1.fu.a f=s.fu.a f:=fun f hf=>by rw [←hs1];exact Tb.set_ne _ _ hf
  have M1:Mz Z s1:=by
   refine ⟨fun f=>?_,fun f hf=>?_,by rw [hH];exact M.hz⟩
   ·have hs:=run_set (f:=f) (n:=s.last) hne hb hb1 hbx.2.1 hbx.2.2.1
    rw [rv_off (b:=b') (by rw [e4];rfl)] at hs
    have hm:=M.bz f;rw [hF,hL,end_busy]
    split
    ·rename_i e
     subst e;rw [rv_on (by rw [hbusy];rfl)] at hs
     omega
    ·rename_i e
     rw [rv_other (fun q=>e q.symm)] at hs;omega
   ·rw [hF,end_some]
    by_cases e:f=b.fn
    ·exact M.fx f (by rw [e,eg];rfl)
    ·rw [eg2 f e] at hf;exact M.fx f hf
  have h2':i≤s1.last:=by rw [hL];exact hbx.2.2.1
  dsimp only;rw [hs1]
  split
  ·exact M1.kill hb1 e1 (warm_up e4) (by rw [e2];exact eg1) hbx.2.1 h2'
  ·split
   ·exact M1
   ·unfold St.rest
    rw [St.B_of hb1];dsimp only
    split
    ·exact M1.idle hb1 e1 (warm_up e4) (by rw [e2];exact eg1) hbx.2.1 h2'
    ·rw [e2,St.G_of eg1]
     refine Mz.kill (b:=b') (g:={ ({ g with ended:=s.now }:Fu) with unt:=s1.now+({ g with ended:=s.now }:Fu).win.2.2 }) (i:=i) ⟨M1.bz,fun f hf=>?_,M1.hz⟩ hb1 e1 (warm_up e4) (by rw [e2];exact setG_at' _ _ _) hbx.2.1 h2'
     by_cases e:f=b.fn
     ·exact M1.fx f (by rw [e,eg1];rfl)
     ·refine M1.fx f ?_
      rw [show ((s1.setT (1,b.fn) (s1.now+({ g with ended:=s.now }:Fu).win.2.1)).setG b.fn { ({ g with ended:=s.now }:Fu) with unt:=s1.now+({ g with ended:=s.now }:Fu).win.2.2 }).fu.a f=s1.fu.a f from Tb.set_ne _ _ e] at hf
      exact hf
 ·exact M
theorem tend_mz {K:Nat} {Z:Int→Int} {s:St} (h:Inv (K+1000) 0 s) (M:Mz Z s) (ev:Ev):Mz Z (s.tend ev).1:=by
 unfold St.tend
 split
 ·rename_i hm
  obtain ⟨b,hb,hu⟩:=h.alive hm
  split
  ·exact booted_mz h M hb hu
  ·split
   ·exact done_mz h M hb hu
   ·obtain ⟨g,eg,_⟩:=h.onF _ b hb hu
    have hbx:=h.bx _ b hb;have h1:=h.goneI hb hu;have hs:=gone_some (f:=b.fn) hb (by rw [eg];rfl)
    obtain ⟨g1,eg1⟩:=Option.isSome_iff_exists.1 hs;rw [St.B_of hb];have A:Pth (s.gone ev.n) ((s.gone ev.n).keep b.fn):=Pth.keep (K:=K) .refl h1 eg1;exact A.mz (M.gone hb hbx.1 hu eg hbx.2.1 hbx.2.2.1)
 ·exact M
theorem begin_mz {K e:Nat} {Z:Int→Int} {s:St} (h:Inv K e s) (M:Mz Z s) {i:Int} {b:Bo} (hb:s.bx i=some b) (hq:b.q=.warm∨b.q=.boot) {f:Int} (hf:b.fn=f) (hm:mayB s.A s.F f=true):Mz Z (s.begin f i):=by
 subst hf;have hu:upQ b.q=true:=by rcases hq with q | q <;> rw [q] <;> rfl
 obtain ⟨g,eg,_⟩:=h.onF i b hb hu;have hbx:=h.bx i b hb;unfold St.begin;rw [St.G_of eg];dsimp only;obtain ⟨s1,hs1⟩:∃ s1,(s.setG b.fn (calledG g s.now (busy s.F b.fn == 0))).delT (1,b.fn)=s1:=⟨_,rfl⟩;rw [hs1];obtain ⟨s3,hs3⟩:∃ s3,({ s1 with F:=begF s1.A s1.F b.fn }:St).hold i=s3:=⟨_,rfl⟩;rw [hs3];have hb3:s3.bx=s.bx:=by rw [←hs3,←hs1];rfl
 have hB3:s3.B i=b:=by unfold St.B;rw [hb3,hb];rfl
 have hH:s3.H=s.H:=by rw [←hs3,←hs1];rfl
 have hL:s3.last=s.last:=by rw [←hs3,←hs1];rfl
 have hF:s3.F=begF s.A s.F b.fn:=by rw [←hs3,←hs1];rfl
 have hfu:s3.fu=s1.fu:=by rw [←hs3];rfl
 rw [hB3];have hsm:=nx_same (k:=0) (b:=b) (now:=s.now) (by decide)
 have hr:(nx 0 b s.now).1.q.runs=true:=by
  obtain ⟨i',f',x',m',q',p',t'⟩:=b
  rcases hq with q | q
  ·have q:q'=.warm:=q
   subst q;rfl
  ·have q:q'=.boot:=q
   subst q;rfl
 have hr0:b.q.runs=false:=by rcases hq with q | q <;> rw [q] <;> rfl
 obtain ⟨b',hb'⟩:∃ b',(nx 0 b s.now).1=b':=⟨_,rfl⟩;rw [hb'] at hsm hr;rw [hb'];have hid':b'.id=i:=hsm.1.trans hbx.1;have hb1:(s3.setB b').bx i=some b':=setB_bx hid';have hne:∀ j,j≠i→(s3.setB b').bx j=s.bx j:=fun j hj=>by rw [setB_ne (by rw [hid'];exact hj),hb3]
 refine ⟨fun f=>?_,fun f hf=>?_,fun y d z u hh=>?_⟩
 ·have hs:=run_set (f:=f) (n:=s.last) hne hb hb1 hbx.2.1 hbx.2.2.1
  rw [rv_off hr0] at hs;have hmz:=M.bz f;show busy s3.F f=sumN (runN (s3.setB b').bx f) s3.last.toNat;rw [hF,hL,beg_busy hm (M.fx _ (by rw [eg];rfl))]
  split
  ·rename_i e
   subst e;rw [←hsm.2.1,rv_on hr] at hs;rw [←hsm.2.1] at hmz ⊢;omega
  ·rename_i e
   rw [rv_other (fun q=>e (by rw [←q,hsm.2.1]))] at hs
   omega
 ·show (s3.F f).isSome=true
  rw [hF,beg_some];have hg2:(s3.fu.a f).isSome=true:=hf;rw [hfu,←hs1] at hg2
  by_cases e:f=b.fn
  ·exact M.fx f (by rw [e,eg];rfl)
  ·rw [show ((s.setG b.fn (calledG g s.now (busy s.F b.fn == 0))).delT (1,b.fn)).fu.a f=s.fu.a f from Tb.set_ne _ _ e] at hg2
   exact M.fx f hg2
 ·have hh2:s3.H y=some (d,z,u):=hh
  rw [hH] at hh2;exact M.hz y d z u hh2
theorem cold_mz {K:Nat} {Z:Int→Int} {s:St} (h:Inv (K+1) 0 s) (M:Mz Z s) {f:Int} {g:Fu} (eg:s.fu.a f=some g) (hm:mayB s.A s.F f=true):Mz Z (s.cold f).1:=by
 unfold St.cold;rw [St.G_of eg];dsimp only
 split
 ·exact M
 ·obtain ⟨h1,h2,h3,_⟩:=h.room g.mem
  have A:Pth s (s.room g.mem).1:=Pth.room .refl h g.mem
  cases q:s.room g.mem with
  | mk s1 o =>
   rw [q] at h1 h2 h3 A
   cases o with
   | none=>exact A.mz M
   | some x =>
    obtain ⟨k1,k2⟩:=h2 x rfl;obtain ⟨g',eg',_,hmm,_⟩:=h3 f g eg;have hf:=h.fu _ _ eg;have M1:=A.mz M;obtain ⟨l1,l2⟩:=A.led;obtain ⟨s2,hs2⟩:∃ s2:St,({ s1 with tk:=s1.tk.set g.acc (((s.tk.a g.acc).getD (0,0,0)).1,((s.tk.a g.acc).getD (0,0,0)).2.1,((s.tk.a g.acc).getD (0,0,0)).2.2-1) }:St)=s2:=⟨_,rfl⟩;have h4:Inv (K+1) 0 s2:=by rw [←hs2];exact h1.tkS _ (by omega)
    have M2:Mz Z s2:=by rw [←hs2];exact ⟨M1.bz,M1.fx,M1.hz⟩
    have l3:s2.F=s.F:=by rw [←hs2];exact l1
    have l4:s2.A=s.A:=by rw [←hs2];exact l2
    have e2:s2.fu.a f=some g':=by rw [←hs2];exact eg'
    have e3:s2.H=s1.H:=by rw [←hs2]
    have B:Pth s2 (s2.boot f x):=.boot .refl h4 e2 (by rw [e3];exact k1) (by rw [e3,hmm];exact k2)
    have h5:=h4.boot e2 (by rw [e3];exact k1) (by rw [e3,hmm];exact k2)
    dsimp only;rw [hs2];have hb:(s2.boot f x).bx (s2.boot f x).last=some ⟨s2.last+1,f,x,(s2.G f).mem,.boot,false,s2.now⟩:=updZ_same _ _ _;exact begin_mz h5 (B.mz M2) hb (Or.inr rfl) rfl (by rw [B.led.1,B.led.2,l3,l4];exact hm)
theorem call_mz {K:Nat} {Z:Int→Int} {s:St} (h:Inv (K+1) 0 s) (M:Mz Z s) (f:Int):Mz Z (s.call f).1:=by
 unfold St.call
 split
 ·rename_i hf
  obtain ⟨g,eg⟩:=Option.isSome_iff_exists.1 hf
  split
  ·exact M
  ·rename_i a1
   split
   ·exact M
   ·rename_i a2
    have hm:mayB s.A s.F f=true:=by
     have hs:=M.fx f hf
     have ha:askC s.A s.F f=(0,true):=by
      unfold askC at a1 a2 ⊢
      cases q:s.F f with
      | none=>rw [q] at hs;cases hs
      | some v =>
       obtain ⟨o,r,c⟩:=v;rw [q] at a1 a2;dsimp only at a1 a2 ⊢
       split at a1
       ·exact absurd rfl a1
       ·rename_i c1
        rw [if_neg c1] at a2 ⊢
        split at a2
        ·exact absurd rfl a2
        ·rename_i c2
         rw [if_neg c2]
     unfold mayB;rw [ha];rfl
    cases q:s.fresh f with
    | none=>exact cold_mz h M eg hm
    | some i =>
     obtain ⟨b,hb,hu,hbf,hbq⟩:=h.fresh eg q;exact begin_mz h M hb (Or.inl hbq) hbf hm
 ·exact M
def szE (Z:Int→Int) (e:Ev) (a:Ans):Int→Int:=if a.1=0∧e.k=3 then updI Z e.n e.s else Z
theorem answer_mz {K:Nat} {Z:Int→Int} {s:St} (h:Inv (K+64064) 0 s) (M:Mz Z s) {ev:Ev} (hp:0≤ev.n∧0≤ev.a∧0≤ev.p):Mz (szE Z ev (s.answer ev).2) (s.answer ev).1:=by
 unfold szE
 by_cases h6:ev.k=6
 ·rw [if_neg (by rw [h6];omega)]
  unfold St.answer;rw [if_pos h6];have h1:Inv (K+1) 0 s:=h.mono (by omega) (Nat.le_refl _)
  exact call_mz h1 M _
 ·unfold St.answer
  rw [if_neg h6];dsimp only;have h1:Inv (K+1000) 0 s:=h.mono (by omega) (Nat.le_refl _)
  have h2:Inv (K+64000) 0 s:=h.mono (by omega) (Nat.le_refl _)
  by_cases h3:ev.k=3
  ·have e:s.turn ev=s.addHost ev.n ev.s:=by
    unfold St.turn;rw [if_neg (by omega),if_neg (by omega),if_pos h3]
   rw [e];obtain ⟨a1,a2⟩:=addHost_mz h2 M ev.n ev.s
   by_cases c:(s.addHost ev.n ev.s).2=0
   ·rw [if_pos c,if_pos ⟨rfl,h3⟩];exact a1 c
   ·rw [if_neg c,if_neg (fun q=>absurd q.1 (by show (1:Int)≠0;omega))];exact a2 c
  ·rw [if_neg (fun q=>h3 q.2)]
   unfold St.turn
   split
   ·exact account_mz M _
   ·split
    ·exact func_mz h1 hp M
    ·split
     ·exact drain_mz h2 M _
     ·split
      ·exact fail_mz h2 M _
      ·split
       ·exact tend_mz h1 M _
       ·dsimp only;exact tick_mz h M
end Go.Proofs.YthdengocipfgiaaGreat.W.C
namespace Go.Proofs.YthdengocipfgiaaGreat.W.C
open Go.RowKit Go.Proofs.YthdengocipfgiaaGreat.W
def upL (m:Tb Unit) (k:Nat):List Int:=((List.range k).map (fun j=>((j+1:Nat):Int))).filter (fun i=>(m.a i).isSome)
theorem upL_succ (m:Tb Unit) (k:Nat):upL m (k+1)=upL m k ++ (if (m.a ((k+1:Nat):Int)).isSome then [((k+1:Nat):Int)] else []):=by
 unfold upL;rw [List.range_succ,List.map_append,List.filter_append];congr 1;show List.filter (fun i=>(m.a i).isSome) [((k+1:Nat):Int)]=_;rw [List.filter_cons,List.filter_nil]
theorem sum_upL (G:Int→Nat) (m:Tb Unit):∀ k,sumN (fun j=>G ((upL m k).getD j 0)) (upL m k).length=sumN (fun j=>if (m.a ((j:Int)+1)).isSome then G ((j:Int)+1) else 0) k
 | 0=>rfl
 | k+1=>by
  rw [upL_succ];show _=sumN _ k+(if (m.a ((k:Int)+1)).isSome=true then G ((k:Int)+1) else 0)
  rw [←sum_upL G m k]
  by_cases h:(m.a ((k:Int)+1)).isSome=true
  ·have h':(m.a ((k+1:Nat):Int)).isSome=true:=h
   rw [if_pos h',if_pos h,List.length_append];show sumN _ ((upL m k).length)+_=_;congr 1
   ·refine sumN_ext (fun j hj=>?_)
    rw [List.getD_eq_getElem?_getD,List.getD_eq_getElem?_getD,List.getElem?_append_left hj]
   ·show G ((upL m k ++ [((k+1:Nat):Int)]).getD (upL m k).length 0)=_
    rw [List.getD_eq_getElem?_getD,List.getElem?_append_right (Nat.le_refl _),Nat.sub_self];rfl
  ·have h':¬ (m.a ((k+1:Nat):Int)).isSome=true:=h
   rw [if_neg h',if_neg h,List.append_nil];rfl
theorem sum_ups (G:Int→Nat) (m:Tb Unit) (n:Int):sumN (fun j=>G ((ups m n).getD j 0)) (ups m n).length=sumN (fun j=>if (m.a ((j:Int)+1)).isSome then G ((j:Int)+1) else 0) n.toNat:=sum_upL G m n.toNat
def memU (TB:Nat→Bo) (h:Int) (u:Nat):Nat:=sumN (fun j=>if (TB j).ho=h then (TB j).me.toNat else 0) u
def runU (TB:Nat→Bo) (f:Int) (u:Nat):Nat:=sumN (fun j=>rv (TB j) f) u
theorem mem_all {K e:Nat} {s:St} (h:Inv K e s) (x:Int):memU s.box x (ups s.mx s.last).length=sumN (useN s.bx x) s.last.toNat:=by
 have h1:=sum_ups (fun i=>if (s.B i).ho=x then (s.B i).me.toNat else 0) s.mx s.last
 refine Eq.trans h1 (sumN_ext (fun j _=>?_));have ha:=h.al ((j:Int)+1);unfold useN;unfold alB at ha
 cases q:s.bx ((j:Int)+1) with
 | none=>rw [q] at ha;rw [ha];rfl
 | some b =>
  rw [q] at ha;dsimp only at ha ⊢;rw [ha,St.B_of q]
  cases hu:upQ b.q <;> simp
theorem run_all {K e:Nat} {s:St} (h:Inv K e s) (f:Int):runU s.box f (ups s.mx s.last).length=sumN (runN s.bx f) s.last.toNat:=by
 have h1:=sum_ups (fun i=>rv (s.B i) f) s.mx s.last;refine Eq.trans h1 (sumN_ext (fun j _=>?_));have ha:=h.al ((j:Int)+1);unfold runN;unfold alB at ha
 cases q:s.bx ((j:Int)+1) with
 | none=>rw [q] at ha;rw [ha];rfl
 | some b =>
  rw [q] at ha;dsimp only at ha ⊢;rw [ha,St.B_of q]
  cases hu:upQ b.q with
  | true=>rfl
  | false =>
   have:b.q.runs=false:=by cases r:b.q <;> rw [r] at hu <;> first | rfl | cases hu
   rw [rv_off this];rfl
theorem memU_le (TB:Nat→Bo) (h:Int):∀ {u v:Nat},u≤v→memU TB h u≤memU TB h v
 | u,0,q=>by rw [Nat.le_zero.1 q];exact Nat.le_refl _
 | u,v+1,q=>by
  rcases Nat.lt_or_ge v u with r | r
  ·rw [show u=v+1 by omega];exact Nat.le_refl _
  ·have:=memU_le TB h r
   show _≤memU TB h v+_;omega
theorem runU_le (TB:Nat→Bo) (f:Int):∀ u,runU TB f u≤u
 | 0=>Nat.le_refl _
 | u+1=>by
  have:=runU_le TB f u
  show runU TB f u+rv (TB u) f≤_;unfold rv
  split <;> omega
theorem host_words {K e:Nat} {Z:Int→Int} {s:St} (h:Inv K e s) (M:Mz Z s) {u:Nat} (hu:u<(ups s.mx s.last).length) :
  Z (s.box u).ho≤4096∧(memU s.box (s.box u).ho (ups s.mx s.last).length:Int)≤Z (s.box u).ho∧fr s.H (s.box u).ho=Z (s.box u).ho-(memU s.box (s.box u).ho (ups s.mx s.last).length:Int):=by
 obtain ⟨b1,b2,_⟩:=box_at h hu;obtain ⟨t,ht⟩:=Option.isSome_iff_exists.1 (h.onP _ _ b1 b2).1;obtain ⟨d,z,w⟩:=t;obtain ⟨_,_,_,h1,h2,_,h3⟩:=h.ho _ _ _ _ ht;have hz:=M.hz _ _ _ _ ht;rw [mem_all h,←h3,hz];refine ⟨by omega,by omega,?_⟩
 unfold fr;rw [ht]
theorem busy_words {K e:Nat} {Z:Int→Int} {s:St} (h:Inv K e s) (M:Mz Z s) (f:Int):busy s.F f=runU s.box f (ups s.mx s.last).length:=by
 rw [M.bz,run_all h]
theorem ids_up {K e:Nat} {s:St} (h:Inv K e s) {u:Nat} (hu:u+1<(ups s.mx s.last).length):(s.box u).id<(s.box (u+1)).id:=by
 have e:∀ v (hv:v<(ups s.mx s.last).length),(s.box v).id=(ups s.mx s.last)[v]:=fun v hv=>by
  obtain ⟨b1,_⟩:=box_at h hv;have hm:=List.getElem_mem hv;obtain ⟨_,_,m3⟩:=mem_ups.1 hm;obtain ⟨b,hb,_⟩:=h.alive m3;unfold St.box;rw [List.getD_eq_getElem?_getD,List.getElem?_eq_getElem hv];show (s.B _).id=_;rw [show s.B ((some ((ups s.mx s.last)[v])).getD 0)=b from St.B_of hb]
  exact (h.bx _ b hb).1
 rw [e u (by omega),e (u+1) hu]
 exact List.pairwise_iff_getElem.1 (ups_pw s.mx s.last) u (u+1) (by omega) hu (by omega)
theorem doE_mz {K:Nat} {Z:Int→Int} {s:St} (h:Inv (K+64064) 0 s) (M:Mz Z s) (ev:Ev):Mz (szE Z ev (s.doE ev).2.1) (s.doE ev).1:=by
 by_cases q:right ev
 ·rw [St.doE_right q]
  obtain ⟨k,n,l,z,r,a,m,c,v,p⟩:=ev;have h3:=(right_sm q).2;have A:=answer_mz h M (ev:=⟨k,n,l,z,r,a,m,c,v,p⟩) ⟨h3.1.1,h3.2.1,h3.2.2⟩;exact ⟨A.bz,A.fx,A.hz⟩
 ·rw [St.doE_not q]
  unfold szE;rw [if_neg (fun q=>absurd q.1 (by show (1:Int)≠0;omega))]
  exact M
end Go.Proofs.YthdengocipfgiaaGreat.W.C
namespace Go.Proofs.YthdengocipfgiaaGreat.W.C
open Go.RowKit Go.Proofs.YthdengocipfgiaaGreat.W
attribute [local go_sem] Oper.semAt_some
theorem Cor.cled {w:World} {own:Nat→Option Tag} {y:Lay} {s:St} (h:Cor w own y s):w.cell? ⟨y.c,2,none⟩=some (ptr y.l):=by
 obtain ⟨v,G,h2,_⟩:=h.coreAll;exact cellL h2 2 _ rfl
theorem Cor.chos {w:World} {own:Nat→Option Tag} {y:Lay} {s:St} (h:Cor w own y s):w.cell? ⟨y.c,5,none⟩=some (ptr y.h):=by
 obtain ⟨v,G,h2,_⟩:=h.coreAll;exact cellL h2 5 _ rfl
theorem c_BusyC {w:World} {own:Nat→Option Tag} {y:Lay} {s:St} (h:Cor w own y s) (f:Int):Calls Tryz.prog 12 #[ptr y.c,.int .i64 f] w fun e w'=>e=.returned (.int .i64 (busy s.F f:Int))∧w=w':=by
 have dr:=c_readyC h;have db:=k_busy h f;have ht:=h.cled;clear h
 go_enter Tryz.func12,Tryz.ntmps12
 go_wp2_with fail
 with_reducible refine dr.mono ?_
 rintro e w1 ⟨rfl,rfl⟩;go_wp2_with fail
 with_reducible refine db.mono ?_
 rintro e w2 ⟨rfl,rfl⟩;go_wp2_with fail
 go_ret
 exact ⟨rfl,rfl⟩
theorem c_BusyW {w:World} {own:Nat→Option Tag} {c:Nat} {s:St} (h:Wk w own c s) (f:Int):Calls Tryz.prog 12 #[ptr c,.int .i64 f] w fun e w'=>e=.returned (.int .i64 (busy s.F f:Int))∧∃ own',Wk w' own' c s∧Nx w own w' own'∧∃ y,y.c=c∧Cor w' own' y s:=by
 obtain ⟨an,hC,ha⟩:=h;have dr:=c_readyR hC;clear hC
 go_enter Tryz.func12,Tryz.ntmps12
 go_wp2_with fail
 with_reducible refine dr.mono ?_
 rintro e w1 ⟨rfl,y,own1,rfl,rfl,h1,n1⟩;have db:=k_busy h1 f;have ht:=h1.cled;have H1:=Lib.hid h1;clear h1 dr;go_wp2_with fail
 with_reducible refine db.mono ?_
 rintro e w2 ⟨rfl,rfl⟩;go_wp2_with fail
 go_ret
 exact ⟨rfl,own1,⟨y.an,Or.inl ⟨y,rfl,rfl,H1.out⟩,ha⟩,n1,y,rfl,H1.out⟩
theorem c_FreeC {w:World} {own:Nat→Option Tag} {y:Lay} {s:St} (h:Cor w own y s) (x:Int):Calls Tryz.prog 11 #[ptr y.c,.int .i64 x] w fun e w'=>e=.returned (.int .i64 (fr s.H x))∧∃ m,w'=w.drewN m:=by
 have dr:=c_readyC h;have db:=k_free h x;have ht:=h.chos;clear h
 go_enter Tryz.func11,Tryz.ntmps11
 go_wp2_with fail
 with_reducible refine dr.mono ?_
 rintro e w1 ⟨rfl,rfl⟩;go_wp2_with fail
 with_reducible refine db.mono ?_
 rintro e w2 ⟨rfl,m,rfl⟩;go_wp2_with fail
 go_ret
 exact ⟨rfl,m,rfl⟩
theorem l_runs {w:World} {bm:Nat} {c:Bo} (h:Bx w bm c):Calls Tryz.prog 10 #[ptr bm] w fun e w'=>e=.returned (.bool c.q.runs)∧w=w':=by
 have h4:w.cell? ⟨bm,4,none⟩=some (.int .i64 c.q.st):=cellL h 4 _ rfl;have h5:w.cell? ⟨bm,5,none⟩=some (.bool c.q.bd):=cellL h 5 _ rfl;clear h;obtain ⟨i,f,x,m,q,p,t⟩:=c
 cases q <;> (
  go_enter Tryz.func10,Tryz.ntmps10
  go_wp2_with fail
  go_ret
  exact ⟨rfl,rfl⟩)
end Go.Proofs.YthdengocipfgiaaGreat.W.C
namespace Go.Proofs.YthdengocipfgiaaGreat.W.C
open Go.RowKit Go.Proofs.YthdengocipfgiaaGreat.W
def mapU (TB:Nat→Bo):Nat→Int→Option Value
 | 0=>fun _=>none
 | u+1=>updZ (mapU TB u) (TB u).ho (some (.int .i64 (memU TB (TB u).ho (u+1):Int)))
def mapB (TB:Nat→Bo):Nat→Int→Option Value
 | 0=>fun _=>none
 | u+1=>if (TB u).q.runs=true then updZ (mapB TB u) (TB u).fn (some (.int .i64 (runU TB (TB u).fn (u+1):Int))) else mapB TB u
theorem memU_ne (TB:Nat→Bo) {h:Int} {u:Nat} (e:h≠(TB u).ho):memU TB h (u+1)=memU TB h u:=by
 show memU TB h u+(if (TB u).ho=h then _ else 0)=_
 rw [if_neg (fun q=>e q.symm)];rfl
theorem memU_eq (TB:Nat→Bo) (u:Nat):memU TB (TB u).ho (u+1)=memU TB (TB u).ho u+(TB u).me.toNat:=by
 show memU TB (TB u).ho u+(if (TB u).ho=(TB u).ho then _ else 0)=_
 rw [if_pos rfl]
theorem runU_ne (TB:Nat→Bo) {f:Int} {u:Nat} (e:f≠(TB u).fn):runU TB f (u+1)=runU TB f u:=by
 show runU TB f u+rv (TB u) f=_;rw [rv_other (fun q=>e q.symm)];rfl
theorem runU_off (TB:Nat→Bo) {f:Int} {u:Nat} (e:¬ (TB u).q.runs=true):runU TB f (u+1)=runU TB f u:=by
 show runU TB f u+rv (TB u) f=_;rw [rv_off (by simpa using e)];rfl
theorem runU_on (TB:Nat→Bo) {u:Nat} (e:(TB u).q.runs=true):runU TB (TB u).fn (u+1)=runU TB (TB u).fn u+1:=by
 show runU TB (TB u).fn u+rv (TB u) (TB u).fn=_;rw [rv_on e]
theorem mapU_get (TB:Nat→Bo):∀ u h,((mapU TB u) h).getD (.int .i64 0)=.int .i64 (memU TB h u:Int)
 | 0,h=>rfl
 | u+1,h=>by
  unfold mapU;rw [updZ_at]
  split
  ·rename_i e;rw [e];rfl
  ·rename_i e;rw [memU_ne TB e];exact mapU_get TB u h
theorem mapB_get (TB:Nat→Bo):∀ u f,((mapB TB u) f).getD (.int .i64 0)=.int .i64 (runU TB f u:Int)
 | 0,f=>rfl
 | u+1,f=>by
  unfold mapB
  by_cases r:(TB u).q.runs=true
  ·rw [if_pos r,updZ_at]
   split
   ·rename_i e;rw [e];rfl
   ·rename_i e;rw [runU_ne TB e];exact mapB_get TB u f
  ·rw [if_neg r,runU_off TB r];exact mapB_get TB u f
theorem mapU_some (TB:Nat→Bo) {v:Value}:∀ {u:Nat} {h:Int},mapU TB u h=some v→v=.int .i64 (memU TB h u:Int)∧∃ j,j<u∧(TB j).ho=h
 | 0,h,e=>nomatch e
 | u+1,h,e=>by
  unfold mapU at e;rw [updZ_at] at e
  split at e
  ·rename_i q;cases e;exact ⟨by rw [q],u,by omega,q.symm⟩
  ·rename_i q
   obtain ⟨h1,j,h2,h3⟩:=mapU_some TB e;exact ⟨by rw [memU_ne TB q];exact h1,j,by omega,h3⟩
theorem mapU_on (TB:Nat→Bo) (u:Nat):updZ (mapU TB u) (TB u).ho (some (.int .i64 (memU TB (TB u).ho (u+1):Int)))=mapU TB (u+1):=rfl
theorem mapB_on (TB:Nat→Bo) {u:Nat} (r:(TB u).q.runs=true):updZ (mapB TB u) (TB u).fn (some (.int .i64 (runU TB (TB u).fn (u+1):Int)))=mapB TB (u+1):=by
 show _=(if _ then _ else _)
 rw [if_pos r]
theorem mapB_off (TB:Nat→Bo) {u:Nat} (r:¬ (TB u).q.runs=true):mapB TB (u+1)=mapB TB u:=by
 show (if _ then _ else _)=_
 rw [if_neg r]
section
variable {P:Program} {w:World} {ops:Array Oper} {rest:List Oper} {o:Oper} {a:Act} {Q:Exit→Act→World→Prop}
theorem wpList_mi_at (hg:o.guard=none) (m x:Operand) (t:TypeId) (hop:o.op=Op.lookup t m x false) (k e:TypeId) (hk:P.underlying k=some (.int .i64)) (ht:P.underlying t=some (.map k e))
  (hz:(zeroValue e).run P w=.ok (.int .i64 0) w) (b:Nat) (M:Int→Option Value) (c:Nat) (hm:a.eval m=.map (some b)) (h:Mp P k w b M c) (n:Int) (hx:a.eval x=.int .i64 n) (hw:(KL n).wf=true)
  (v:Int) (hv:(M n).getD (.int .i64 0)=.int .i64 v) (hK:wpList P ops Q rest (a.put o.dst (.int .i64 v)) w):wpList P ops Q (o :: rest) a w:=by
 refine wpList_plain hg fun K' hK'=>?_;have hrun:=mp_run_at (t:=t) h hk ht hz hw;rw [hv] at hrun;unfold Oper.wp;simp [execOp,hop,hm,hx,hrun,Result.andThen];exact hK' _ _ hK
end
theorem map_len {M:Int→Option Value} {n:Int} {c u:Nat} (h:c≤u):(if (M n).isSome then c else c+1)≤u+1:=by
 split <;> omega
theorem zeroInt (w:World):(zeroValue 3).run Tryz.prog w=.ok (.int .i64 0) w:=by kernel_rfl
end Go.Proofs.YthdengocipfgiaaGreat.W.C
namespace Go.Proofs.YthdengocipfgiaaGreat.W.C
open Go.RowKit Go.Proofs.YthdengocipfgiaaGreat.W
attribute [local go_sem] Oper.semAt_some
theorem wr_in {x:Int} (h0:-9223372036854775808≤x) (h1:x≤9223372036854775807):IntKind.i64.wrap x=x:=by rw [IntKind.wrap_i64];omega
theorem Rw.look {w:World} {c1:Nat} {s1:St} {sb:Nat} {MZ:Int→Option Value} {cz yb:Nat} {MB:Int→Option Value} {cb:Nat} {W:World} (h:Rw w c1 s1 sb MZ cz yb MB cb W) {f v:Int} (hw:(KL f).wf=true) (hv:(MB f).getD (.int .i64 0)=.int .i64 v) :
  (Instr.lookup 26 (.map (some yb)) (.int .i64 f) false).run Tryz.prog W=.ok (.int .i64 v) W:=by
 obtain ⟨o,_,_,_,h4⟩:=h;have:=mp_run_at (t:=26) h4.1 Tryz.underlying3 Tryz.underlying26 (zeroInt _) hw
 rw [hv] at this;exact this
theorem c_BusyRw {w:World} {c1:Nat} {s1:St} {sb:Nat} {MZ:Int→Option Value} {cz yb:Nat} {MB:Int→Option Value} {cb:Nat} {W:World} (h:Rw w c1 s1 sb MZ cz yb MB cb W) {f v:Int} (hw:(KL f).wf=true) (hv:(MB f).getD (.int .i64 0)=.int .i64 v) (hb:(busy s1.F f:Int)=v) :
  Calls Tryz.prog 12 #[ptr c1,.int .i64 f] W fun e w'=>e=.returned (.int .i64 v)∧Hid (Rw w c1 s1 sb MZ cz yb MB cb w')∧(Instr.lookup 26 (.map (some yb)) (.int .i64 f) false).run Tryz.prog w'=.ok (.int .i64 v) w'∧(Instr.lookup 26 (.map (some yb)) (.int .i64 f) false).run Tryz.prog w'.drew=.ok (.int .i64 v) w'.drew∧∀ j,(Instr.lookup 26 (.map (some yb)) (.int .i64 f) false).run Tryz.prog (w'.drewN j)=.ok (.int .i64 v) (w'.drewN j):=by
 obtain ⟨o,h1,h2,h3,h4⟩:=h;refine (c_BusyW h1 f).mono ?_;rintro e w' ⟨rfl,o',k1,n1,_⟩;have S:=Sk.nx n1;have R:Rw w c1 s1 sb MZ cz yb MB cb w':=⟨o',k1,h2.nx n1,⟨h3.1.kept n1.only (fun q=>q h3.2.1),(S _ h3.2).1⟩,h4.1.kept n1.only (fun q=>q h4.2.1),(S _ h4.2).1⟩;exact ⟨by rw [hb],Lib.hid R,R.look hw hv,(R.drewN 1).look hw hv,fun j=>(R.drewN j).look hw hv⟩
theorem memory_walk (a0:Option Addr) (k cap:Nat) (Z:Nat→Int) (w:World) (L:Lies w w.heap.size a0 (zs Z (k*10))) (hm:k≤9223372036854775807) (hwf:∀ j,j<k*10→(Lit.int .i64 (Z j)).wf=true) :
    Calls Tryz.prog 3 #[.slice a0 k cap] w fun e w'=>e=.returned (.bool true)∧Below w.heap.size w w':=by
  by_cases h200:200<k
  · go_enter Tryz.func3,Tryz.ntmps3
    go_wp2_with fail
    with_reducible refine (l_head _).mono ?_
    rintro e w1 ⟨rfl,hb1⟩;go_wp2_with fail
    go_ret
    exact ⟨rfl,hb1⟩
  · clear hm
    have hmm:=@run_makeMap Tryz.prog;have HZW:=Lib.hid hwf;clear hwf
    go_enter Tryz.func3,Tryz.ntmps3
    go_wp2_with fail
    with_reducible refine (l_head _).mono ?_
    rintro e w1 ⟨rfl,b1⟩;go_wp2_with fail
    with_reducible refine (c_NewW w1).mono ?_
    rintro e w2 ⟨c1,p1,rfl,k1,_,g1,b2⟩;have f2:Far w p1 w2:=⟨b1.trans (b2.mono b1.size),fun j q=>Nat.le_trans b1.size (g1 j q)⟩;go_upto_region 7 with (fail)
    have bm:Below w2.heap.size w2 (w2.alloc (.map #[] 0)):=(Below.refl _ _).alloc (Nat.le_refl _) _;have hm0:=Mp.made Tryz.prog 3 w2;have F2:Hid (Far w p1 (w2.alloc (.map #[] 0))):=Lib.hid (f2.side (Only.of_below (S:=fun _=>False) bm) (fun _ q=>q.elim));have K2:=Lib.hid (k1.below bm);have hsn:p1 w2.heap.size=none:=k1.fresh (Nat.le_refl _);have hsw:w.heap.size≤w2.heap.size:=f2.1.size;obtain ⟨sb,hsb⟩:∃ sb,w2.heap.size=sb:=⟨_,rfl⟩;rw [hsb] at hm0 hsn hsw
    try rw [hsb]
    have S2:Hid (Mp Tryz.prog 3 (w2.alloc (.map #[] 0)) sb (fun _=>none) 0∧0≤0∧p1 sb=none∧w.heap.size≤sb):=Lib.hid ⟨hm0,Nat.le_refl _,hsn,hsw⟩;have Z2:Hid (∀ y,((fun _=>none:Int→Option Value) y).getD (.int .i64 0)=.int .i64 ((fun _=>0:Int→Int) y)):=Lib.hid (fun y=>rfl);have I2:Hid (Inv ((200-0)*64064+64064) 0 St.zero∧St.zero.out=[]∧Mz (fun _=>0) St.zero):=Lib.hid ⟨Inv.zero (by decide),rfl,Mz.zero _⟩
    clear b1 k1 g1 b2 f2 bm hm0 hsn hsw hsb;generalize w2.alloc (.map #[] 0)=w3 at F2 K2 S2 ⊢;go_wp2_with fail
    go_loopg [26] k (fun gk v26 wr=>∃ (i:Nat) (o:Nat→Option Tag) (s:St) (MZ:Int→Option Value) (cz:Nat) (Zf:Int→Int),v26=.int .i64 (i:Int)∧Hid (i+gk=k)∧Hid (Inv ((200-i)*64064+64064) 0 s∧s.out=[]∧Mz Zf s)∧Hid (Wk wr o c1 s)∧Hid (Far w o wr)∧Hid (Mp Tryz.prog 3 wr sb MZ cz∧cz≤i∧o sb=none∧w.heap.size≤sb)∧Hid (∀ y,(MZ y).getD (.int .i64 0)=.int .i64 (Zf y)))
    case atStart=>exact ⟨0,p1,St.zero,fun _=>none,0,fun _=>0,rfl,Lib.hid (by omega),I2,K2,F2,S2,Z2⟩
    case round =>
      clear F2 K2 S2 Z2 I2;obtain ⟨i,o,s,MZ,cz,Zf,rfl,HK,HI,HW,HF,HS,HZ⟩:=hrel
      by_cases hi:i<k
      · obtain ⟨ad,rfl,hab,hcell⟩:=(L.below HF.out.1 (Nat.le_refl _)).num (j:=i*10) (by omega)
        have hli:(i:Int)<(k:Int):=by omega
        have hwn:=HZW.out (i*10+1) (by omega)
        have HI2:=Lib.hid hi;obtain ⟨W0,hW0⟩:∃ W0,W0=wr:=⟨_,rfl⟩;subst hW0;have x0:W0.cell? (ad.add (i*10))=some (.int .i64 (Z (i*10))):=hcell (i*10) (by omega)
        have x1:=cell_in (c:=0) (hcell (i*10+1) (by omega))
        have x2:=cell_in (c:=1) (hcell (i*10+2) (by omega))
        have x3:=cell_in (c:=2) (hcell (i*10+3) (by omega))
        have x4:=cell_in (c:=3) (hcell (i*10+4) (by omega))
        have x5:=cell_in (c:=4) (hcell (i*10+5) (by omega))
        have x6:=cell_in (c:=5) (hcell (i*10+6) (by omega))
        have x7:=cell_in (c:=6) (hcell (i*10+7) (by omega))
        have x8:=cell_in (c:=7) (hcell (i*10+8) (by omega))
        have x9:=cell_in (c:=8) (hcell (i*10+9) (by omega))
        obtain ⟨q0,hq0⟩:∃ q,Z (i*10)=q:=⟨_,rfl⟩;obtain ⟨q1,hq1⟩:∃ q,Z (i*10+1)=q:=⟨_,rfl⟩;obtain ⟨q2,hq2⟩:∃ q,Z (i*10+2)=q:=⟨_,rfl⟩;obtain ⟨q3,hq3⟩:∃ q,Z (i*10+3)=q:=⟨_,rfl⟩;obtain ⟨q4,hq4⟩:∃ q,Z (i*10+4)=q:=⟨_,rfl⟩;obtain ⟨q5,hq5⟩:∃ q,Z (i*10+5)=q:=⟨_,rfl⟩;obtain ⟨q6,hq6⟩:∃ q,Z (i*10+6)=q:=⟨_,rfl⟩;obtain ⟨q7,hq7⟩:∃ q,Z (i*10+7)=q:=⟨_,rfl⟩;obtain ⟨q8,hq8⟩:∃ q,Z (i*10+8)=q:=⟨_,rfl⟩;obtain ⟨q9,hq9⟩:∃ q,Z (i*10+9)=q:=⟨_,rfl⟩;rw [hq0] at x0;rw [hq1] at x1 hwn;rw [hq2] at x2;rw [hq3] at x3;rw [hq4] at x4;rw [hq5] at x5;rw [hq6] at x6;rw [hq7] at x7;rw [hq8] at x8;rw [hq9] at x9;clear hq0 hq1 hq2 hq3 hq4 hq5 hq6 hq7 hq8 hq9 hcell;have HWN:=Lib.hid hwn;go_upto_region 10 with (fail)
        have hbox:=heap_alloc_new W0 (.cells #[.int .i64 q0,.int .i64 q1,.int .i64 q2,.int .i64 q3,.int .i64 q4,.int .i64 q5,.int .i64 q6,.int .i64 q7,.int .i64 q8,.int .i64 q9] 29);have b5:Below W0.heap.size W0 (W0.alloc (.cells #[.int .i64 q0,.int .i64 q1,.int .i64 q2,.int .i64 q3,.int .i64 q4,.int .i64 q5,.int .i64 q6,.int .i64 q7,.int .i64 q8,.int .i64 q9] 29)):=(Below.refl _ _).alloc (Nat.le_refl _) _;have k5:=HW.out.below b5;have f5:Far w o (W0.alloc (.cells #[.int .i64 q0,.int .i64 q1,.int .i64 q2,.int .i64 q3,.int .i64 q4,.int .i64 q5,.int .i64 q6,.int .i64 q7,.int .i64 q8,.int .i64 q9] 29)):=HF.out.side (Only.of_below (S:=fun _=>False) b5) (fun _ q=>q.elim);have s5:=HS.out.1.kept (Only.of_below (S:=fun _=>False) b5) (fun q=>q);have hxn:o W0.heap.size=none:=HW.out.fresh (Nat.le_refl _);have hls:=HS.out.1.lt;obtain ⟨x,hx⟩:∃ x,W0.heap.size=x:=⟨_,rfl⟩;rw [hx] at hbox hxn hls
        try rw [hx]
        clear x0 x1 x2 x3 x4 x5 x6 x7 x8 x9 HW HF b5 hx hab hwn;generalize W0.alloc (.cells #[.int .i64 q0,.int .i64 q1,.int .i64 q2,.int .i64 q3,.int .i64 q4,.int .i64 q5,.int .i64 q6,.int .i64 q7,.int .i64 q8,.int .i64 q9] 29)=w5 at hbox k5 f5 s5 ⊢;have ⟨y0,y1,y2,y3,y4,y5,y6,y7,y8,y9⟩:=ev_cells hbox
        by_cases h40:q9≤40
        · have dm:=l_mild w5 q0 q1 q2 q3 q4 q5 q6 q7 q8 q9
          rw [decide_eq_true h40] at dm;clear h40;go_wp2_with fail
          with_reducible refine dm.mono ?_
          rintro e w6 ⟨rfl,b56⟩;have S6:Sk w5 o w6 o:=Sk.below b56;have FX5:Fs w5 o x:=⟨hxn,lt_of_row hbox⟩;have FS5:Fs w5 o sb:=⟨HS.out.2.2.1,s5.lt⟩;have k7:=k5.below b56;have f7:=f5.side (Only.of_below (S:=fun _=>False) b56) (fun _ q=>q.elim);have s7:=s5.kept (Only.of_below (S:=fun _=>False) b56) (fun q=>q);have e7:=(S6 _ FX5).2.trans hbox;have FX7:=(S6 _ FX5).1;have FS7:=(S6 _ FS5).1;have HE7:=Lib.hid e7;have HXS:=Lib.hid (show x≠sb by omega)
          clear y0 y1 y2 y3 y4 y5 y6 y7 y8 y9 dm k5 f5 s5 b56 hbox hxn S6 FX5 FS5 e7 hls;have HI6:Hid (Inv ((200-(i+1))*64064+64064+64064) 0 s):=Lib.hid (HI.out.1.mono (by omega) (Nat.le_refl _))
          have hI7:=Inv.doE HI6.out ⟨q0,q1,q2,q3,q4,q5,q6,q7,q8,q9⟩;have hO7:=doE_out HI.out.2.1 ⟨q0,q1,q2,q3,q4,q5,q6,q7,q8,q9⟩;have hM7:=doE_mz HI6.out HI.out.2.2 ⟨q0,q1,q2,q3,q4,q5,q6,q7,q8,q9⟩;have ⟨y0,y1,y2,y3,y4,y5,y6,y7,y8,y9⟩:=ev_cells HE7.out;have d1:=c_Do k7 HI6.out q0 q1 q2 q3 q4 q5 q6 q7 q8 q9;obtain ⟨r,hr⟩:∃ r,s.doE ⟨q0,q1,q2,q3,q4,q5,q6,q7,q8,q9⟩=r:=⟨_,rfl⟩;rw [hr] at d1 hI7 hO7 hM7;obtain ⟨s1,⟨b1,b2,b3,b4⟩,l⟩:=r;obtain ⟨Z1,hZ1⟩:∃ Z1,szE Zf ⟨q0,q1,q2,q3,q4,q5,q6,q7,q8,q9⟩ (b1,b2,b3,b4)=Z1:=⟨_,rfl⟩;have hM7b:Mz Z1 s1:=by rw [←hZ1];exact hM7
          have HI7:Hid (Inv ((200-(i+1))*64064+64064) 0 s1∧s1.out=[]∧Mz Z1 s1):=Lib.hid ⟨hI7,hO7,hM7b⟩;have HZ1:=Lib.hid hZ1;clear hr HI HI6 hI7 hO7 hM7 hM7b hZ1
          go_upto_region 12 with (first
            | (go_at_call 8;go_loud (with_reducible refine d1.mono ?_;rintro e w9 ⟨sv1,rfl,own10,G1,k9,n9,i9,g9⟩;have HX9:=new_ans w9))
            | (with_reducible refine wpList_store_ans rfl (.tmp 7) (.tmp 37) rfl w9.heap.size b1 b2 b3 b4 rfl rfl 0 0 0 0 HX9 ?_;intro w10 HG10 hg10))
          have o10:=ans_only hg10;have S10:Sk w6 o w10 own10:=(Sk.nx n9).trans (Sk.new o10);have P10:=Lib.hid (k9.side o10 (fun j q=>k9.fresh (by omega)))
          have P10F:=Lib.hid ((f7.nx n9).side o10 (fun j q=>by have:=((f7.nx n9).1).size;omega))
          have HE10:=Lib.hid ((S10 _ FX7).2.trans HE7.out);have HS10:=Lib.hid (And.intro ((s7.kept n9.only (fun q=>q FS7.1)).kept o10 (fun q=>by have:=FS7.2;have:=n9.only.size;omega)) (S10 _ FS7).1.1)
          obtain ⟨A2,c2,rfl,_⟩:=i9.slice;obtain ⟨X,hX⟩:∃ X,w9.heap.size=X:=⟨_,rfl⟩;rw [hX] at HG10
          try rw [hX]
          have HX10:=HG10;clear y0 y1 y2 y3 y4 y5 y6 y7 y8 y9 HX9 d1 k7 f7 s7 k9 n9 i9 g9 o10 hg10 HE7 hX S10 FX7 FS7 HG10;obtain ⟨gg,hgg⟩:∃ gg,gg=(decide (b1=0) && decide (q0=3)):=⟨_,rfl⟩;have HGG:=Lib.hid hgg;have y0:=(ev_cells HE10.out).1;have z0:=(an_cells HX10.out).1
          go_cut [46] (fun v wc=>v=.bool gg∧w10=wc)
          case first =>
            clear HGG
            by_cases h1:b1=0
            · have h1b:(b1 == 0)=true:=by rw [h1];rfl
              by_cases h3:q0=3
              · have h3b:(q0 == 3)=true:=by rw [h3];rfl
                rw [decide_eq_true h1,decide_eq_true h3] at hgg;obtain rfl:gg=true:=hgg;clear h1 h3;go_wp2_with fail
                go_meet
                exact ⟨rfl,rfl⟩
              · have h3b:(q0 == 3)=false:=by simpa using h3
                rw [decide_eq_false h3,Bool.and_false] at hgg;obtain rfl:gg=false:=hgg;clear h1 h3;go_wp2_with fail
                go_meet
                exact ⟨rfl,rfl⟩
            · have h1b:(b1 == 0)=false:=by simpa using h1
              rw [decide_eq_false h1,Bool.false_and] at hgg;obtain rfl:gg=false:=hgg;clear h1;go_wp2_with fail
              go_meet
              exact ⟨rfl,rfl⟩
          case rest =>
            obtain ⟨rfl,rfl⟩:=hcut;clear hgg y0 z0
            go_upto_if 46 with (fail)
            have y1:=(ev_cells HE10.out).2.1;have y3:=(ev_cells HE10.out).2.2.2.1
            go_cut [] (fun wc=>∃ (MZ':Int→Option Value) (cz':Nat),Hid (Mp Tryz.prog 3 wc sb MZ' cz'∧cz'≤i+1)∧Hid (∀ y,(MZ' y).getD (.int .i64 0)=.int .i64 (Z1 y))∧Hid (Only w10 wc (fun j=>j=sb)))
            case first =>
              cases gg with
              | false =>
                go_wp2_with fail
                go_meet
                refine ⟨MZ,cz,Lib.hid ⟨HS10.out.1,Nat.le_succ_of_le HS.out.2.1⟩,Lib.hid (fun y=>?_),Lib.hid (Only.refl _ _)⟩;rw [HZ.out y,←HZ1.out];unfold szE;rw [if_neg (fun q=>by have:=HGG.out;rw [decide_eq_true q.1,decide_eq_true q.2] at this;cases this)]
              | true =>
                have hbq:b1=0∧q0=3:=by have:=HGG.out;simp at this;exact this
                have HBQ:=Lib.hid hbq;clear hbq HGG;have hcZ:cz<maxLen:=by have:=HS.out.2.1;have:=HI2.out;unfold maxLen;omega
                go_wp2_with (with_reducible refine wpList_mp_set rfl (.tmp 47) (.tmp 49) (.tmp 51) 26 rfl 3 3 Tryz.underlying3 Tryz.underlying26 sb _ _ rfl HS10.out.1 hcZ q1 rfl HWN.out (.int .i64 q3) rfl _ rfl ?_;intro w11 m11 g11)
                go_meet
                refine ⟨_,_,Lib.hid ⟨m11,map_len HS.out.2.1⟩,Lib.hid (fun y=>?_),Lib.hid (Only.grown g11 (Or.inl rfl))⟩;rw [←HZ1.out];unfold szE;rw [if_pos (show ((b1,b2,b3,b4):Ans).1=0∧q0=3 from HBQ.out),updZ_at]
                unfold updI;show _=Value.int .i64 (if y=q1 then q3 else Zf y)
                split
                · rfl
                · exact HZ.out y
            case rest =>
              rename World=>w12
              obtain ⟨MZ1,cz1,HMZ,HZ13,HO12⟩:=hcut;have hsb2:=HS.out.2.2.2;clear y1 y3 HGG HZ HZ1 HE10 HX10 HXS HWN;have k12:=P10.out.side HO12.out (fun j q=>by rw [q];exact HS10.out.2)
              have f12:=P10F.out.side HO12.out (fun j q=>by rw [q];exact hsb2)
              have hsn:=HS10.out.2;have HSB:=Lib.hid hsb2;clear HO12 P10 P10F HS10 HS hsb2;have dBf:=fun W (kk:Wk W own10 c1 s1)=>c_Boxes kk HI7.out.1;obtain ⟨nb,hnb⟩:∃ nb,(ups s1.mx s1.last).length=nb:=⟨_,rfl⟩;obtain ⟨TB,hTB⟩:∃ TB,s1.box=TB:=⟨_,rfl⟩;have hlim:nb<1073741824:=by rw [←hnb];have h1:=ups_le s1.mx s1.last;have h2:=HI7.out.1.last;omega
              have HLim:=Lib.hid hlim
              have HBO:Hid (∀ u,u<nb→1≤(TB u).id∧(TB u).id≤s1.last∧(TB u).q.st≠3∧(1≤(TB u).me∧(TB u).me≤4096∧s1.last<1073741824)∧0≤(TB u).fn∧(TB u).fn<64∧0≤(TB u).ho∧(TB u).ho<32):=Lib.hid (fun u hu=>by
                obtain ⟨b1,b2,b3,b4⟩:=box_at HI7.out.1 (q:=u) (by rw [hnb];exact hu)
                rw [hTB] at b1 b2 b3 b4;have hbx:=HI7.out.1.bx _ _ b1;have hl:=HI7.out.1.last
                have hst:(TB u).q.st≠3:=fun q=>by
                  cases r:(TB u).q <;> rw [r] at q b2 <;> first | (exact absurd q (by decide)) | cases b2
                exact ⟨b3,b4,hst,⟨by omega,by omega,by omega⟩,by omega,by omega,by omega,by omega⟩)
              have HHO:Hid (∀ u,u<nb→Z1 (TB u).ho≤4096∧(memU TB (TB u).ho nb:Int)≤Z1 (TB u).ho∧fr s1.H (TB u).ho=Z1 (TB u).ho-(memU TB (TB u).ho nb:Int)):=Lib.hid (fun u hu=>by
                have h1:=host_words HI7.out.1 HI7.out.2.2 (u:=u) (by rw [hnb];exact hu)
                rw [hTB,hnb] at h1;exact h1)
              have HUP:Hid (∀ u,u+1<nb→(TB u).id<(TB (u+1)).id):=Lib.hid (fun u hu=>by
                have h1:=ids_up HI7.out.1 (u:=u) (by rw [hnb];exact hu)
                rw [hTB] at h1;exact h1)
              have HBZ:Hid (∀ f,(busy s1.F f:Int)=(runU TB f nb:Int)):=Lib.hid (fun f=>by
                have h1:=busy_words HI7.out.1 HI7.out.2.2 f;rw [hTB,hnb] at h1;rw [h1])
              simp only [hnb,hTB] at dBf;clear hlim hnb hTB;go_upto_region 17 with (fail)
              have ba:Below w12.heap.size w12 (w12.alloc (.map #[] 0)):=(Below.refl _ _).alloc (Nat.le_refl _) _;have bb:Below w12.heap.size w12 ((w12.alloc (.map #[] 0)).alloc (.map #[] 0)):=ba.alloc ba.size _;have mu:=(Mp.made Tryz.prog 3 w12).kept ((Only.refl (w12.alloc (.map #[] 0)) (fun _=>False)).alloc (.map #[] 0)) (fun q=>q);have mb:=Mp.made Tryz.prog 3 (w12.alloc (.map #[] 0));have hsz:(w12.alloc (.map #[] 0)).heap.size=w12.heap.size+1:=by simp
              have k13:=k12.below bb;have f13:=f12.side (Only.of_below (S:=fun _=>False) bb) (fun _ q=>q.elim);have s13:=HMZ.out.1.kept (Only.of_below (S:=fun _=>False) bb) (fun q=>q);have hls:=HMZ.out.1.lt;have hou:own10 w12.heap.size=none:=k12.fresh (Nat.le_refl _);have hoy:own10 (w12.heap.size+1)=none:=k12.fresh (by omega)
              have hfw:=f12.1.size;rw [hsz] at mb
              try rw [hsz]
              obtain ⟨ub,hub⟩:∃ ub,w12.heap.size=ub:=⟨_,rfl⟩;obtain ⟨yb,hyb⟩:∃ yb,ub+1=yb:=⟨_,rfl⟩;rw [hub] at mu mb hou hoy hls hfw;rw [hyb] at mb hoy
              try rw [hub]
              try rw [hyb]
              have HNE:Hid (ub≠yb):=Lib.hid (by omega)
              have HNS:Hid (sb≠ub∧sb≠yb):=Lib.hid ⟨by omega,by omega⟩
              have HYB:=Lib.hid (show w.heap.size≤ub∧w.heap.size≤yb by omega)
              have HOO:=Lib.hid (And.intro hou hoy);clear ba bb hsz hub hyb hls hou hoy hfw k12 f12;generalize (w12.alloc (.map #[] 0)).alloc (.map #[] 0)=w12b at mu mb k13 f13 s13 ⊢;have dB:=dBf _ k13;clear dBf;go_wp2_with fail
              with_reducible refine dB.mono ?_
              rintro e w13 ⟨g7,cap7,rfl,R13,hg7,b13⟩;have n13:Only w12b w13 (fun _=>False):=Only.of_below b13;have K13:=Lib.hid (k13.below b13);have F13:=Lib.hid (f13.side n13 (fun _ q=>q.elim));have HMU13:Hid (Mp Tryz.prog 3 w13 ub (mapU TB 0) 0∧0≤0):=Lib.hid ⟨mu.kept n13 (fun q=>q),Nat.le_refl _⟩;have HMB13:Hid (Mp Tryz.prog 3 w13 yb (mapB TB 0) 0∧0≤0):=Lib.hid ⟨mb.kept n13 (fun q=>q),Nat.le_refl _⟩;have HS13:=Lib.hid (And.intro (s13.kept n13 (fun q=>q)) (And.intro hsn trivial));have HCZ:=Lib.hid HMZ.out.2;have HNG:Hid (g7≠ub∧g7≠yb):=Lib.hid (by have:=mu.lt;have:=mb.lt;exact ⟨by omega,by omega⟩)
              have HR13:Hid (True∧Row brow 8 43 w13 g7 nb cap7 TB):=Lib.hid ⟨trivial,R13⟩;clear dB mu mb k13 f13 s13 R13 hg7 b13 n13 HMZ hsn;go_wp2_with fail
              go_loopg [10,57] nb (fun gk vl vu wr=>∃ (u:Nat) (lv:Int) (cu cb:Nat),vl=.int .i64 lv∧vu=.int .i64 (u:Int)∧Hid (u+gk=nb)∧Hid (lv=if u=0 then 0 else (TB (u-1)).id)∧Hid (Mp Tryz.prog 3 wr ub (mapU TB u) cu∧cu≤u)∧Hid (Mp Tryz.prog 3 wr yb (mapB TB u) cb∧cb≤u)∧Hid (Only w13 wr (fun j=>j=ub∨j=yb)))
              case atStart=>exact ⟨0,0,0,0,rfl,rfl,Lib.hid (by omega),Lib.hid rfl,HMU13,HMB13,Lib.hid (Only.refl _ _)⟩
              case round =>
                clear HMU13 HMB13;obtain ⟨u,lv,cu,cb,rfl,rfl,HU2,HLV,HMU,HMB,HO⟩:=hrel
                by_cases hu:u<nb
                · have huI:(u:Int)<(nb:Int):=by omega
                  have HU:=Lib.hid hu;have hrow:=HR13.out.2.kept HO.out (fun q=>q.elim HNG.out.1 HNG.out.2);have hbo:=HBO.out u hu;have hho:=HHO.out u hu;have hup:=HUP.out u;have hlv:=HLV.out;have ⟨x0,x1,x2,x3,x4,x5,x6,x7⟩:=box_cells hrow hu;obtain ⟨v0,e0⟩:∃ v,(TB u).id=v:=⟨_,rfl⟩;obtain ⟨v1,e1⟩:∃ v,(TB u).fn=v:=⟨_,rfl⟩;obtain ⟨v2,e2⟩:∃ v,(TB u).ho=v:=⟨_,rfl⟩;obtain ⟨v3,e3⟩:∃ v,(TB u).me=v:=⟨_,rfl⟩;obtain ⟨v4,e4⟩:∃ v,(TB u).q.st=v:=⟨_,rfl⟩;obtain ⟨v5,e5⟩:∃ v,(TB u).q.bd=v:=⟨_,rfl⟩;obtain ⟨v6,e6⟩:∃ v,(TB u).p=v:=⟨_,rfl⟩;obtain ⟨v7,e7⟩:∃ v,(TB u).t=v:=⟨_,rfl⟩;rw [e0] at x0;rw [e1] at x1;rw [e2] at x2;rw [e3] at x3;rw [e4] at x4;rw [e5] at x5;rw [e6] at x6;rw [e7] at x7
                  have hd1:decide (v0≤lv)=false:=by
                    rw [decide_eq_false_iff_not,hlv]
                    by_cases e:u=0
                    · rw [if_pos e];rw [e0] at hbo;omega
                    · rw [if_neg e]
                      have h1:=HUP.out (u-1) (by omega)
                      rw [show u-1+1=u by omega,e0] at h1
                      omega
                  have hd2:(v4 == 3)=false:=by
                    have h1:=hbo.2.2.1;rw [e4] at h1
                    simpa using h1
                  have hd3:decide (v3<1)=false:=by rw [decide_eq_false_iff_not];have:=hbo.2.2.2.1;rw [e3] at this;omega
                  have HWF:Hid ((KL v2).wf=true∧(KL v1).wf=true∧(KL v0).wf=true):=Lib.hid (by
                    have h1:=hbo.2.2.2.2;rw [e1,e2] at h1;have h2:=hbo.2.1;have h3:=hbo.1;rw [e0] at h2 h3;exact ⟨wfK (by omega) (by omega),wfK (by omega) (by omega),wfK (by omega) (by omega)⟩)
                  have hwU:IntKind.i64.wrap ((memU TB v2 u:Int)+v3)=(memU TB v2 (u+1):Int):=by
                    have h1:=memU_eq TB u;rw [e2,e3] at h1;rw [e2] at hho;have h2:=memU_le TB v2 (show u+1≤nb by omega)
                    have h3:=hbo.2.2.2.1;rw [e3] at h3;rw [wr_in (by omega) (by omega),h1];omega
                  have HBX:Hid (TB u=⟨v0,v1,v2,v3,(TB u).q,v6,v7⟩):=Lib.hid (by rw [←e0,←e1,←e2,←e3,←e6,←e7])
                  have HST:Hid ((TB u).q.st=v4∧(TB u).q.bd=v5):=Lib.hid ⟨e4,e5⟩;have HV0:=Lib.hid e0;have HV1:=Lib.hid e1;have HV2:=Lib.hid e2;clear e0 e1 e2 e3 e4 e5 e6 e7 hrow hu hbo hho hup hlv HLV;obtain ⟨W2,hW2⟩:∃ W2,W2=wr:=⟨_,rfl⟩;subst hW2;go_upto_region 20 with (fail)
                  have hbx:=heap_alloc_new W2 (.cells #[.int .i64 v0,.int .i64 v1,.int .i64 v2,.int .i64 v3,.int .i64 v4,.bool v5,.bool v6,.int .i64 v7] 43);have o14:=HO.out.alloc (.cells #[.int .i64 v0,.int .i64 v1,.int .i64 v2,.int .i64 v3,.int .i64 v4,.bool v5,.bool v6,.int .i64 v7] 43);have n14:Only W2 (W2.alloc (.cells #[.int .i64 v0,.int .i64 v1,.int .i64 v2,.int .i64 v3,.int .i64 v4,.bool v5,.bool v6,.int .i64 v7] 43)) (fun _=>False):=(Only.refl W2 _).alloc _;have mu14:=HMU.out.1.kept n14 (fun q=>q);have mb14:=HMB.out.1.kept n14 (fun q=>q);have hlu:=HMU.out.1.lt;have hly:=HMB.out.1.lt;clear x0 x1 x2 x3 x4 x5 x6 x7 HO n14;obtain ⟨bm,hbm⟩:∃ bm,W2.heap.size=bm:=⟨_,rfl⟩;have hbu:bm≠ub:=by omega
                  have hby:bm≠yb:=by omega
                  rw [hbm] at hbx
                  try rw [hbm]
                  clear hbm hlu hly;generalize W2.alloc (.cells #[.int .i64 v0,.int .i64 v1,.int .i64 v2,.int .i64 v3,.int .i64 v4,.bool v5,.bool v6,.int .i64 v7] 43)=w14 at hbx o14 mu14 mb14 ⊢;have d0:w14.cell? ⟨bm,0,none⟩=some (.int .i64 v0):=cellL hbx 0 _ rfl;have d2:w14.cell? ⟨bm,2,none⟩=some (.int .i64 v2):=cellL hbx 2 _ rfl;have d3:w14.cell? ⟨bm,3,none⟩=some (.int .i64 v3):=cellL hbx 3 _ rfl;have d4:w14.cell? ⟨bm,4,none⟩=some (.int .i64 v4):=cellL hbx 4 _ rfl;have hcU:cu<maxLen:=by have:=HMU.out.2;have:=HU.out;have:=HLim.out;unfold maxLen;omega
                  have hcB:cb<maxLen:=by have:=HMB.out.2;have:=HU.out;have:=HLim.out;unfold maxLen;omega
                  have HBX14:=Lib.hid hbx;have HO14:=Lib.hid o14;have HMU14:=Lib.hid mu14;have HMB14:=Lib.hid mb14;have HNB:=Lib.hid (And.intro hbu hby);clear hbx o14 mu14 mb14 hbu hby
                  go_upto_region 24 with (first
                    | (with_reducible refine wpList_mi_at rfl (.tmp 77) (.tmp 79) 26 rfl 3 3 Tryz.underlying3 Tryz.underlying26 (zeroInt _) ub _ _ rfl HMU14.out v2 rfl HWF.out.1 _ (mapU_get TB u v2) ?_)
                    | (with_reducible refine wpList_mp_set rfl (.tmp 77) (.tmp 79) (.tmp 83) 26 rfl 3 3 Tryz.underlying3 Tryz.underlying26 ub _ _ rfl HMU14.out hcU v2 rfl HWF.out.1 (.int .i64 (memU TB v2 (u+1):Int)) rfl _ rfl ?_;intro w15 m15 g15))
                  have HO15:=Lib.hid (HO14.out.tr (Only.grown g15 (Or.inl (Or.inl rfl))));have o15:Only w14 w15 (fun j=>j=ub):=Only.grown g15 (Or.inl rfl);have HMB15:=Lib.hid (And.intro (HMB14.out.kept o15 (fun q=>HNE.out q.symm)) HMB.out.2);have hbx15:=o15.blk (fun q=>HNB.out.1 q) HBX14.out;have m15b:=m15;rw [show updZ (mapU TB u) v2 (some (.int .i64 (memU TB v2 (u+1):Int)))=mapU TB (u+1) by rw [←mapU_on TB u,HV2.out]] at m15b
                  obtain ⟨cu',hcu'⟩:∃ c',(if (mapU TB u v2).isSome=true then cu else cu+1)=c':=⟨_,rfl⟩;have HMU15:Hid (Mp Tryz.prog 3 w15 ub (mapU TB (u+1)) cu'∧cu'≤u+1):=Lib.hid ⟨by rw [←hcu'];exact m15b,by rw [←hcu'];exact map_len HMU.out.2⟩
                  clear hcu'
                  have hbB:Bx w15 bm (TB u):=by
                    rw [HBX.out];unfold Bx brow;dsimp only;rw [HST.out.1,HST.out.2];exact hbx15
                  have d1:w15.cell? ⟨bm,1,none⟩=some (.int .i64 v1):=cellL hbx15 1 _ rfl;have rr:=l_runs hbB;clear d0 d2 d3 d4 HBX14 HO14 HMU14 HMB14 HMU HMB m15 g15 o15 hbx15 m15b hbB hwU hd1 hd2 hd3 hcU
                  by_cases hrun:(TB u).q.runs=true
                  · have HRUN:=Lib.hid hrun
                    rw [hrun] at rr;clear hrun
                    have hwB:IntKind.i64.wrap ((runU TB v1 u:Int)+1)=(runU TB v1 (u+1):Int):=by
                      have h1:=runU_on TB HRUN.out;rw [HV1.out] at h1;rw [wr_in (by omega) (by have:=runU_le TB v1 u;have:=HLim.out;have:=HU.out;omega),h1];omega
                    go_wp2_with fail
                    with_reducible refine rr.mono ?_
                    rintro e w16 ⟨rfl,rfl⟩
                    go_wp2_with (first
                      | (with_reducible refine wpList_mi_at rfl (.tmp 85) (.tmp 87) 26 rfl 3 3 Tryz.underlying3 Tryz.underlying26 (zeroInt _) yb _ _ rfl HMB15.out.1 v1 rfl HWF.out.2.1 _ (mapB_get TB u v1) ?_)
                      | (with_reducible refine wpList_mp_set rfl (.tmp 85) (.tmp 87) (.tmp 89) 26 rfl 3 3 Tryz.underlying3 Tryz.underlying26 yb _ _ rfl HMB15.out.1 hcB v1 rfl HWF.out.2.1 (.int .i64 (runU TB v1 (u+1):Int)) rfl _ rfl ?_;intro w17 m17 g17))
                    have o17:=HO15.out.tr (Only.grown g17 (Or.inl (Or.inr rfl)));have HMU17:=Lib.hid (And.intro (HMU15.out.1.kept (Only.grown (S:=fun j=>j=yb) g17 (Or.inl rfl)) (fun q=>HNE.out q)) HMU15.out.2);have m17b:=m17;rw [show updZ (mapB TB u) v1 (some (.int .i64 (runU TB v1 (u+1):Int)))=mapB TB (u+1) by rw [←mapB_on TB HRUN.out,HV1.out]] at m17b
                    obtain ⟨cb',hcb'⟩:∃ c',(if (mapB TB u v1).isSome=true then cb else cb+1)=c':=⟨_,rfl⟩;have HMB17:Hid (Mp Tryz.prog 3 w17 yb (mapB TB (u+1)) cb'∧cb'≤u+1):=Lib.hid ⟨by rw [←hcb'];exact m17b,by rw [←hcb'];exact map_len HMB15.out.2⟩
                    clear hcb';have HO17:=Lib.hid o17;clear m17 g17 m17b o17 hwB hcB rr;go_roundg (nb-(u+1))
                    case measure=>have:=HU2.out;omega
                    case rel=>exact ⟨u+1,v0,_,_,rfl,by first | rfl | (rw [IntWalk.wrap64_in _ ⟨by omega,by have:=HLim.out;omega⟩];rfl),Lib.hid (by omega),Lib.hid (by rw [if_neg (by omega)];exact HV0.out.symm),HMU17,HMB17,HO17⟩
                  · have HRUN:=Lib.hid hrun
                    rw [show (TB u).q.runs=false by simpa using hrun] at rr
                    clear hrun;have HMB17:Hid (Mp Tryz.prog 3 w15 yb (mapB TB (u+1)) cb∧cb≤u+1):=Lib.hid ⟨by rw [mapB_off TB HRUN.out];exact HMB15.out.1,Nat.le_succ_of_le HMB15.out.2⟩
                    go_wp2_with fail
                    with_reducible refine rr.mono ?_
                    rintro e w16 ⟨rfl,rfl⟩;go_wp2_with fail
                    go_roundg (nb-(u+1))
                    case measure=>have:=HU2.out;omega
                    case rel=>exact ⟨u+1,v0,_,_,rfl,by first | rfl | (rw [IntWalk.wrap64_in _ ⟨by omega,by have:=HLim.out;omega⟩];rfl),Lib.hid (by omega),Lib.hid (by rw [if_neg (by omega)];exact HV0.out.symm),HMU15,HMB17,HO15⟩
                · have hun:u=nb:=by have:=HU2.out;omega
                  subst hun;clear HLV;have HMU1:=HMU.out.1;go_upto_region 28 with (first | (at_range;refine wpList_rngi rfl (.tmp 91) 26 rfl 3 3 Tryz.underlying3 Tryz.underlying26 ub _ _ rfl HMU1 ?_;intro w18 hrg18 hg18))
                  obtain ⟨rb,hrb⟩:∃ rb,wr.heap.size=rb:=⟨_,rfl⟩;rw [hrb] at hrg18
                  try rw [hrb]
                  have o18:=HO.out.tr (Only.grownN hg18)
                  have hNR:Hid (rb≠ub∧rb≠yb∧rb≠sb∧rb≠c1∧w13.heap.size≤rb):=Lib.hid (by
                    have h1:=HMU.out.1.lt;have h2:=HMB.out.1.lt;have h3:=HO.out.size;have h4:=HS13.out.1.lt;have h5:=K13.out.lt (j:=c1) (by rw [K13.out.blk];simp)
                    exact ⟨by omega,by omega,by omega,by omega,by omega⟩)
                  have hS1:∀ j,((j=ub∨j=yb)∨j=rb)→own10 j=none∧w.heap.size≤j:=fun j q=>by
                    rcases q with (q | q) | q
                    · rw [q];exact ⟨HOO.out.1,HYB.out.1⟩
                    · rw [q];exact ⟨HOO.out.2,HYB.out.2⟩
                    · rw [q];exact ⟨K13.out.fresh hNR.out.2.2.2.2,Nat.le_trans F13.out.1.size hNR.out.2.2.2.2⟩
                  have HSO:Hid (∀ j,((j=ub∨j=yb)∨j=rb)→own10 j=none):=Lib.hid (fun j q=>(hS1 j q).1);have HSF:Hid (∀ j,((j=ub∨j=yb)∨j=rb)→w.heap.size≤j):=Lib.hid (fun j q=>(hS1 j q).2);have HMB18:=Lib.hid (And.intro (HMB.out.1.kept (Only.grownN (S:=fun _=>False) hg18) (fun q=>q)) HMB.out.2);have HO18:=Lib.hid (o18.mono (fun j q=>(show (j=ub∨j=yb)∨j=rb from Or.inl q)))
                  clear HMU1 HMU HMB HO o18 hg18 hrb hS1
                  go_frame
                  go_loopg [] cu (fun gk wr=>∃ (left:Int→Bool),Ri Tryz.prog 3 wr ub rb (mapU TB u) cu left gk∧Hid (Only w13 wr (fun j=>(j=ub∨j=yb)∨j=rb))∧Hid (Mp Tryz.prog 3 wr yb (mapB TB u) cb))
                  case atStart=>exact ⟨_,hrg18,HO18,Lib.hid HMB18.out.1⟩
                  case round =>
                    clear hrg18 HO18 HMB18;obtain ⟨left,hrg,HO,HMB⟩:=hrel;go_wp2_with (at_next;refine wpList_nxti rfl (.tmp 92) rfl 3 Tryz.underlying3 ub rb (mapU TB u) cu left gk rfl hrg ?_ ?_)
                    · intro hdone
                      have k19:=K13.out.side HO.out HSO.out;have f19:=F13.out.side HO.out HSF.out;clear hrg
                      have S19:Hid (Mp Tryz.prog 3 wr sb MZ1 cz1∧Fs wr own10 sb):=Lib.hid (by
                        have h1:=HS13.out.1.kept HO.out (fun q=>q.elim (fun q=>q.elim HNS.out.1 HNS.out.2) (fun q=>hNR.out.2.2.1 q.symm));exact ⟨h1,HS13.out.2.1,h1.lt⟩)
                      have B19:Hid (Mp Tryz.prog 3 wr yb (mapB TB u) cb∧Fs wr own10 yb):=Lib.hid ⟨HMB.out,HSO.out yb (Or.inl (Or.inr rfl)),HMB.out.lt⟩;have K19:=Lib.hid k19;have F19:=Lib.hid f19;clear HO HMB k19 f19 HS13 K13 F13 HR13 HSO HSF hNR;go_wp2_with fail
                      go_loopg [16] 64 (fun gk vf wr=>∃ (f:Nat) (o:Nat→Option Tag),vf=.int .i64 (f:Int)∧Hid (f+gk=64)∧Hid (Wk wr o c1 s1)∧Hid (Far w o wr)∧Hid (Mp Tryz.prog 3 wr sb MZ1 cz1∧Fs wr o sb)∧Hid (Mp Tryz.prog 3 wr yb (mapB TB u) cb∧Fs wr o yb))
                      case atStart=>exact ⟨0,own10,rfl,Lib.hid (by omega),K19,F19,S19,B19⟩
                      case round =>
                        clear K19 F19 S19 B19;obtain ⟨f,o,rfl,HFK,HW,HF,HS,HB⟩:=hrel
                        by_cases hf:f<64
                        · have hfI:(f:Int)<64:=by omega
                          have hwf:(KL (f:Int)).wf=true:=wfK (by omega) (by omega)
                          have hbz:=HBZ.out (f:Int);obtain ⟨bv,hbv⟩:∃ bv:Int,(runU TB (f:Int) u:Int)=bv:=⟨_,rfl⟩;have hget:=mapB_get TB u (f:Int);rw [hbv] at hget;rw [hbv] at hbz;have HF64:=Lib.hid hf;have HGT:=Lib.hid hget;have HWFF:=Lib.hid hwf;clear hget hbv hwf;obtain ⟨an,hCr,han⟩:=HW.out
                          rcases hCr with ⟨y,hyc,hya,hC⟩ | hraw
                          · have hBu:∀ m,Calls Tryz.prog 12 #[ptr c1,.int .i64 (f:Int)] (wr.drewN m) fun e w'=>e=.returned (.int .i64 bv)∧∃ q,w'=(wr.drewN m).drewN q:=fun m=>by
                              have h:=c_BusyC (hC.drewN m) (f:Int);rw [hyc,hbz] at h;refine h.mono ?_;rintro e w' ⟨rfl,rfl⟩;exact ⟨rfl,0,rfl⟩
                            have HBU:=Lib.hid hBu;have hl0:=fun j=>mp_run_at (t:=26) (HB.out.1.kept ((Only.refl wr (fun _=>False)).drewN j) (fun q=>q)) Tryz.underlying3 Tryz.underlying26 (zeroInt _) HWFF.out;have hl1:=mp_run_at (t:=26) HB.out.1 Tryz.underlying3 Tryz.underlying26 (zeroInt _) HWFF.out;have hl2:=hl0 1;simp only [HGT.out] at hl0 hl1 hl2;clear hBu hC hyc hya han hbz;go_wp2_with fail
                            go_quiet ((go_at_call 12;exact Calls.quiet_of (HBU.out _)))
                            go_wp2_with fail
                            go_roundg (64-(f+1))
                            case measure=>have:=HFK.out;have:=HF64.out;omega
                            case rel=>exact ⟨f+1,o,by first | rfl | (rw [IntWalk.wrap64_in _ ⟨by omega,by have:=HF64.out;omega⟩];rfl),Lib.hid (by have:=HF64.out;have:=HFK.out;omega),Lib.hid (HW.out.drewN_ _),Lib.hid (HF.out.drewN_ _),Lib.hid ⟨HS.out.1.kept ((Only.refl wr (fun _=>False)).drewN _) (fun q=>q),HS.out.2⟩,Lib.hid ⟨HB.out.1.kept ((Only.refl wr (fun _=>False)).drewN _) (fun q=>q),HB.out.2⟩⟩
                          · clear hraw han
                            have R0:Rw w c1 s1 sb MZ1 cz1 yb (mapB TB u) cb wr:=⟨o,HW.out,HF.out,HS.out,HB.out⟩;have hB0:=c_BusyRw R0 HWFF.out HGT.out hbz;have hB1:Calls Tryz.prog 12 #[ptr c1,.int .i64 (f:Int)] wr.drew _:=c_BusyRw (R0.drewN 1) HWFF.out HGT.out hbz;have hB2:=fun j=>c_BusyRw (R0.drewN j) HWFF.out HGT.out hbz;have hl0:=fun j=>(R0.drewN j).look HWFF.out HGT.out;have hl1:=R0.look HWFF.out HGT.out;have hl2:(Instr.lookup 26 (.map (some yb)) (.int .i64 (f:Int)) false).run Tryz.prog wr.drew=.ok (.int .i64 bv) wr.drew:=(R0.drewN 1).look HWFF.out HGT.out;have HB0:=Lib.hid hB0;have HB1:=Lib.hid hB1;have HB2:=Lib.hid hB2;clear R0 hB0 hB1 hB2 hbz HW HF HS HB;go_wp2_with fail
                            go_region_with (first
                              | (go_at_call 12;with_reducible refine HB0.out.mono ?_;rintro e w20 ⟨rfl,hr20,l20,l21,l22⟩)
                              | (go_at_call 12;with_reducible refine HB1.out.mono ?_;rintro e w20 ⟨rfl,hr20,l20,l21,l22⟩)
                              | (go_at_call 12;with_reducible refine (HB2.out _).mono ?_;rintro e w20 ⟨rfl,hr20,l20,l21,l22⟩))
                            all_goals (
                              clear l20 l21 l22 hl0 hl1 hl2;go_wp2_with fail
                              go_roundg (64-(f+1))
                              case measure=>have:=HFK.out;have:=HF64.out;omega
                              case rel =>
                                first
                                | (
                                   obtain ⟨o20,a1,a2,a3,a4⟩:=hr20.out;exact ⟨f+1,o20,by first | rfl | (rw [IntWalk.wrap64_in _ ⟨by omega,by have:=HF64.out;omega⟩];rfl),Lib.hid (by have:=HF64.out;have:=HFK.out;omega),Lib.hid a1,Lib.hid a2,Lib.hid a3,Lib.hid a4⟩)
                                | (
                                   obtain ⟨o20,a1,a2,a3,a4⟩:=hr20.out.drewN 1;exact ⟨f+1,o20,by first | rfl | (rw [IntWalk.wrap64_in _ ⟨by omega,by have:=HF64.out;omega⟩];rfl),Lib.hid (by have:=HF64.out;have:=HFK.out;omega),Lib.hid a1,Lib.hid a2,Lib.hid a3,Lib.hid a4⟩))
                        · have hun:f=64:=by have:=HFK.out;omega
                          subst hun;go_wp2_with fail
                          go_roundg (k-(i+1))
                          case measure=>have:=HK.out;omega
                          case rel=>exact ⟨i+1,o,s1,MZ1,cz1,Z1,rfl,Lib.hid (by omega),HI7,HW,HF,Lib.hid ⟨HS.out.1,HCZ.out,HS.out.2.1,HSB.out⟩,HZ13⟩
                    · intro x v w19 g1 hg1 hwx hlx hMx hrg19 hg19 hen
                      obtain ⟨hv,j0,hj0,hjo⟩:=mapU_some TB hMx;subst hv;have o19:Only wr w19 (fun j=>j=rb):=Only.grown hg19 (Or.inl rfl);have HO19:=Lib.hid (HO.out.tr (o19.mono (fun j q=>Or.inr q)));have HMB19:=Lib.hid (HMB.out.kept o19 (fun q=>hNR.out.2.1 q.symm));have s19:=HS13.out.1.kept HO19.out (fun q=>q.elim (fun q=>q.elim HNS.out.1 HNS.out.2) (fun q=>hNR.out.2.2.1 q.symm));have k19:=K13.out.side HO19.out HSO.out;have hw3:=HHO.out j0 hj0;rw [hjo] at hw3;obtain ⟨ux,hux⟩:∃ ux:Int,(memU TB x u:Int)=ux:=⟨_,rfl⟩;obtain ⟨zx,hzx⟩:∃ zx:Int,Z1 x=zx:=⟨_,rfl⟩;obtain ⟨fv,hfv⟩:∃ fv:Int,fr s1.H x=fv:=⟨_,rfl⟩;have hu0:0≤ux:=by omega
                      have hgetZ:=HZ13.out x;rw [hux,hzx,hfv] at hw3;rw [hzx] at hgetZ;rw [hux]
                      try rw [hux] at hen
                      have hl0:=fun y=>mp_run_at (t:=26) (s19.kept ((Only.refl w19 (fun _=>False)).drewN y) (fun q=>q)) Tryz.underlying3 Tryz.underlying26 (zeroInt _) hwx;have hl1:=mp_run_at (t:=26) s19 Tryz.underlying3 Tryz.underlying26 (zeroInt _) hwx;have hl2:=hl0 1;simp only [hgetZ] at hl0 hl1 hl2;have hd1:decide (zx<ux)=false:=by rw [decide_eq_false_iff_not];omega
                      have hwr:IntKind.i64.wrap (zx-ux)=fv:=by rw [wr_in (by omega) (by omega)];omega
                      have hlast:0<s1.last:=by have:=HBO.out j0 hj0;omega
                      obtain ⟨an,hCr,han⟩:=k19
                      have hC:∃ y,y.c=c1∧Cor w19 own10 y s1:=by
                        rcases hCr with ⟨y,e,_,h⟩ | ⟨_,h,_⟩
                        · exact ⟨y,e,h⟩
                        · rw [h] at hlast;exact absurd hlast (by show ¬ (0:Int)<0;omega)
                      obtain ⟨y,hyc,hC⟩:=hC;have hFr:=fun m=>c_FreeC (hC.drewN m) x;rw [hyc,hfv] at hFr;have HFR:=Lib.hid hFr;have HG1:=Lib.hid hg1;clear hFr hC hyc hCr han hlast hw3 hux hzx hfv hu0 hgetZ s19 hg1 hlx hMx hg19 hjo hj0 o19 HO HMB hrg;go_wp2_with fail
                      go_quiet ((go_at_call 11;exact Calls.quiet_of (HFR.out _)))
                      go_wp2_with fail
                      go_roundg g1
                      case measure=>exact HG1.out
                      case rel=>exact ⟨_,hrg19.kept ((Only.refl w19 (fun _=>False)).drewN _) (fun q=>q) (fun q=>q),Lib.hid (HO19.out.drewN _),Lib.hid (HMB19.out.kept ((Only.refl w19 (fun _=>False)).drewN _) (fun q=>q))⟩
        · have dm:=l_mild w5 q0 q1 q2 q3 q4 q5 q6 q7 q8 q9
          rw [decide_eq_false h40] at dm;clear h40;go_wp2_with fail
          with_reducible refine dm.mono ?_
          rintro e w6 ⟨rfl,b56⟩;have K6:=Lib.hid (k5.below b56);have F6:=Lib.hid (f5.side (Only.of_below (S:=fun _=>False) b56) (fun _ q=>q.elim));have S6:Hid (Mp Tryz.prog 3 w6 sb MZ cz∧cz≤i+1∧o sb=none∧w.heap.size≤sb):=Lib.hid ⟨s5.kept (Only.of_below (S:=fun _=>False) b56) (fun q=>q),Nat.le_succ_of_le HS.out.2.1,HS.out.2.2.1,HS.out.2.2.2⟩;clear y0 y1 y2 y3 y4 y5 y6 y7 y8 y9 dm k5 f5 s5 b56 hbox hxn hls;go_wp2_with fail
          go_roundg (k-(i+1))
          case measure=>have:=HK.out;omega
          case rel=>exact ⟨i+1,o,s,MZ,cz,Zf,rfl,Lib.hid (by omega),Lib.hid ⟨HI.out.1.mono (by omega) (Nat.le_refl _),HI.out.2⟩,K6,F6,S6,HZ⟩
      · have hik:i=k:=by have:=HK.out;omega
        subst hik;go_wp2_with fail
        go_ret
        exact ⟨rfl,HF.out.1⟩
end Go.Proofs.YthdengocipfgiaaGreat.W.C
