import Derived.Test.YthdengocipfgiaaGreatCcA
import Derived.Test.YthdengocipfgiaaGreatCbG
import Derived.Test.YthdengocipfgiaaGreatCcC
/- A part of what core's laws stand on. -/
set_option linter.unusedVariables false
set_option linter.unusedSimpArgs false
set_option maxRecDepth 100000
set_option maxHeartbeats 3200000
namespace Go.Proofs.YthdengocipfgiaaGreat.W.C
open Go.RowKit Go.Proofs.YthdengocipfgiaaGreat.W
attribute [local go_sem] Oper.semAt_some
theorem booted_no {s:St} {i:Int} {b:Bo} (hb:s.bx i=some b) (h:(nx 1 b s.now).2=false):s.booted i=(s,3):=by
 unfold St.booted;rw [St.B_of hb,h];rfl
theorem booted_yes {s s2:St} {i:Int} {b b':Bo} (hb:s.bx i=some b) (hid:b'.id=i) (h:(nx 1 b s.now).2=true) (hn:(nx 1 b s.now).1=b') (h2:({ s.setB b' with ah:=s.ah.del i }:St)=s2) :
  s.booted i=(if b'.q.idle=true∧b'.p=false then s2.idle i ((s.ah.a i).getD (s.now+(s.G b.fn).win.2.2)) else s2,0):=by
 unfold St.booted;rw [St.B_of hb,if_pos h,hn];dsimp only;rw [show (s.setB b').B i=b' from St.B_of (setB_bx hid),show (s.setB b').ah=s.ah from rfl,h2]
theorem nx_booted {b:Bo} {now:Int} (h:(nx 1 b now).2=false):(nx 1 b now).1=b:=by
 obtain ⟨i,f,x,m,q,p,t⟩:=b
 cases q <;> first | rfl | cases h
theorem nx_idle {b:Bo} {now:Int} (h:(nx 1 b now).2=true):(nx 1 b now).1.q=.warm∨(nx 1 b now).1.q=.busy:=by
 obtain ⟨i,f,x,m,q,p,t⟩:=b
 cases q <;> first | exact Or.inl rfl | exact Or.inr rfl | cases h
theorem wfT {x:Int} (h:0≤x) (k:x≤4398046511104):(Lit.int .i64 x).wf=true:=wfK (by omega) (by omega)
theorem c_booted {w:World} {own:Nat→Option Tag} {y:Lay} {s:St} (h:Cor w own y s) {K:Nat} (hI:Inv K 0 s) {i:Int} {b:Bo} (e:s.bx i=some b) (hu:upQ b.q=true) :
    Calls Tryz.prog 90 #[ptr y.c,ptr (y.bx i)] w fun e w'=>e=.returned (.int .i64 (s.booted i).2)∧To w own y (s.booted i).1 w':=by
  have N0:=Nx.refl w own;have h0:=h;clear h;have B:=hI.bd (by omega)
  have wf:=B.wb e;have hid:=(B.bx _ _ e).1;obtain ⟨_,p,ep,_⟩:=hI.onP i b e hu;obtain ⟨g,eg,_⟩:=hI.onF i b e hu;have kb:=k_booted h0 e hid s.now;have q0:=h0.c0
  cases hd:(nx 1 b s.now).2 with
  | false =>
    have HE:=Lib.hid (booted_no e hd);rw [hd,nx_booted hd] at kb;have hsame:s.setB b=s:=setB_id (by rw [hid];exact e)
    rw [hsame] at kb;have KB:=Lib.hid kb;clear kb hd hsame hI hu
    go_enter Tryz.func90,Tryz.ntmps90
    go_wp2_with fail
    with_reducible refine KB.out.mono ?_
    rintro e0 w1 ⟨rfl,o1,h1,n1⟩;go_wp2_with fail
    go_ret
    rw [HE.out];exact ⟨rfl,o1,h1,n1⟩
  | true =>
    obtain ⟨b',hb'⟩:∃ b',(nx 1 b s.now).1=b':=⟨_,rfl⟩;have hs:=nx_same (k:=1) (b:=b) (now:=s.now) (by decide)
    have hup:=nx_up (k:=1) (b:=b) (now:=s.now) hu (by decide)
    have hid':b'.id=i:=by rw [←hb'];exact hs.1.trans hid
    have hqw:=nx_idle hd;rw [hb'] at hqw hs hup;obtain ⟨s1,hs1⟩:∃ s1:St,s.setB b'=s1:=⟨_,rfl⟩;obtain ⟨s2,hs2⟩:∃ s2:St,({ s1 with ah:=s.ah.del i }:St)=s2:=⟨_,rfl⟩;have HE:=Lib.hid (booted_yes (s2:=s2) e hid' hd hb' (by rw [hs1];exact hs2))
    have hc:=hI.cold_ca e (fun q=>by
      have h1:b.q=.warm:=q.1;obtain ⟨i',f',x',m',q',p',t'⟩:=b;have h1:q'=.warm:=h1;subst h1;cases hd)
    have I1:=hI.nxB (k:=1) e hu (by decide) hc
    rw [hb',hs1] at I1;have I2:Inv K 0 s2:=by rw [←hs2,show s.ah=s1.ah by rw [←hs1] <;> rfl];exact I1.ahD i
    have e1:s1.bx i=some b':=by rw [←hs1];exact setB_bx hid'
    have e2:s2.bx i=some b':=by rw [←hs2];exact e1
    have ep2:s2.pl.a b'.ho=some p:=by rw [←hs2,hs.2.2.1,←hs1];exact ep
    have eg2:s2.fu.a b'.fn=some g:=by rw [←hs2,hs.2.1,←hs1];exact eg
    have hah:s1.ah=s.ah:=by rw [←hs1] <;> rfl
    have hnow2:s2.now=s.now:=by rw [←hs2,←hs1] <;> rfl
    have hG:s.G b.fn=g:=St.G_of eg;rw [hd,hb',hs1] at kb;have KB:=Lib.hid kb;have B2:=I2.bd (by omega)
    have hw:=win_ok g;have hnw:=hI.now;have hav:∀ t,s.ah.a i=some t→(Lit.int .i64 t).wf=true:=fun t ht=>by have:=hI.ah i t ht;exact wfT this.2.1 this.2.2
    have hwf:=wf.2.1;rw [hid] at hwf;have HE1:=Lib.hid (And.intro e1 e2);clear kb hs1 hs hup hb' hd hc I1 hid' B
    go_enter Tryz.func90,Tryz.ntmps90
    go_wp2_with fail
    with_reducible refine KB.out.mono ?_
    rintro e0 w1 ⟨rfl,o1,h1,n1⟩;have N1:=N0.trans n1;clear q0 N0 n1 h0 KB;have q8:=h1.c8;have qi:w1.cell? ⟨y.bx i,0,none⟩=some (.int .i64 i):=by have:=h1.b0 e1;rw [(I2.bx i b' e2).1] at this;exact this
    have la:=h1.la (n:=i) hwf;have la1:=fun j=>(h1.drewN j).la (n:=i) hwf;have la2:=h1.drew.la (n:=i) hwf;rw [hah] at la la1 la2;obtain ⟨av,hav0⟩:∃ av,(s.ah.a i).getD 0=av:=⟨_,rfl⟩;obtain ⟨ao,hao⟩:∃ ao,(s.ah.a i).isSome=ao:=⟨_,rfl⟩;rw [hav0,hao] at la la1 la2;have HAV:=Lib.hid (And.intro hav0 hao);have HS2:=Lib.hid hs2;have HAH:=Lib.hid hah;have HW:=Lib.hid hw;have HNW:=Lib.hid hnw;have HAW:=Lib.hid hav;have HI2:=Lib.hid I2;have HNO:=Lib.hid hnow2;have HQW:=Lib.hid hqw;have HPG:=Lib.hid (And.intro ep2 eg2);have HG:=Lib.hid hG;clear hav0 hao hs2 hah hw hnw hav I2 hnow2 hqw ep2 eg2 hG hid wf e ep eg hI hu;go_wp2_with fail
    go_quiet (fail)
    have h2:=h1.drewN nq;have N2:Nx w own (w1.drewN nq) o1:=N1.trans ⟨(Only.refl _ _).drewN _,fun _ q=>Or.inl q⟩;have q8':(w1.drewN nq).cell? ⟨y.c,8,none⟩=some (.map (some y.ma)):=q8;have qi':(w1.drewN nq).cell? ⟨y.bx i,0,none⟩=some (.int .i64 i):=qi;clear q8 qi la la1 la2 h1 N1;generalize w1.drewN nq=w2 at h2 N2 q8' qi' ⊢;go_wp2_with fail
    go_still_tail 8,(by kernel_rfl)
    change wpList _ _ _ _ _ w2.drew;have h3:=h2.drew;have N3:=N2.drew;clear q8' qi' h2 N2;generalize w2.drew=w3 at h3 N3 ⊢;refine wpList_mp_del rfl (.tmp 29) (.tmp 33) 58 3 rfl 2 Tryz.underlying3 Tryz.underlying58 _ _ _ rfl (h3.ob .ma).2 i rfl hwf _ rfl ?_;intro w4 m4 g4;obtain ⟨h4,n4⟩:=Cor.ma h3 (MpT.del m4) g4;rw [HAH.out,HS2.out] at h4;have N4:=N3.trans n4;generalize grow o1 w3 w4 .ma=o4 at h4 N4 n4;clear n4 h3 N3 m4 g4;have KI:=Lib.hid (k_idle h4 HE1.out.2);have q6:=h4.b6 HE1.out.2
    cases hqi:b'.q.idle with
    | false =>
      rw [hqi] at KI;have HE2:Hid (s.booted i=(s2,0)):=Lib.hid (by rw [HE.out,if_neg (by rw [hqi];simp)])
      clear hqi HE;go_wp2_with (go_at_call 62;with_reducible refine KI.out.mono ?_;rintro e5 w5 ⟨rfl,rfl⟩)
      go_ret
      rw [HE2.out];exact ⟨rfl,o4,h4,N4⟩
    | true =>
      rw [hqi] at KI
      cases hpp:b'.p with
      | true =>
        rw [hpp] at q6;have HE2:Hid (s.booted i=(s2,0)):=Lib.hid (by rw [HE.out,if_neg (by rw [hpp];simp)])
        clear hqi HE hpp;go_wp2_with (go_at_call 62;with_reducible refine KI.out.mono ?_;rintro e5 w5 ⟨rfl,rfl⟩)
        go_ret
        rw [HE2.out];exact ⟨rfl,o4,h4,N4⟩
      | false =>
        rw [hpp] at q6;have HE2:Hid (s.booted i=(s2.idle i ((s.ah.a i).getD (s.now+(s.G b.fn).win.2.2)),0)):=Lib.hid (by rw [HE.out,if_pos ⟨hqi,hpp⟩])
        clear hqi HE hpp
        cases ao with
        | true =>
          have HAT:Hid (s.ah.a i=some av):=Lib.hid (by
            obtain ⟨a1,a2⟩:=HAV.out
            cases q:s.ah.a i with
            | none=>rw [q] at a2;cases a2
            | some t=>rw [q] at a1;rw [←a1];rfl)
          have KD:=Lib.hid (c_idle h4 B2 HE1.out.2 HPG.out.1 HPG.out.2 av (HAW.out av HAT.out))
          go_wp2_with (first
            | (go_at_call 62;with_reducible refine KI.out.mono ?_;rintro e5 w5 ⟨rfl,rfl⟩)
            | (go_at_call 132;with_reducible refine KD.out.mono ?_;rintro e5 w5 ⟨rfl,o5,h5,n5⟩))
          go_ret
          rw [HE2.out];exact ⟨rfl,o5,by rw [HAT.out];exact h5,N4.trans n5⟩
        | false =>
          have HAT:Hid (s.ah.a i=none):=Lib.hid (by
            obtain ⟨a1,a2⟩:=HAV.out
            cases q:s.ah.a i with
            | none=>rfl
            | some t=>rw [q] at a2;cases a2)
          have KW:=Lib.hid (c_windowB h4.drew HPG.out.2);obtain ⟨wh,hwh⟩:∃ wh,g.win.1=wh:=⟨_,rfl⟩;obtain ⟨wp,hwp⟩:∃ wp,g.win.2.1=wp:=⟨_,rfl⟩;obtain ⟨we,hwe⟩:∃ we,g.win.2.2=we:=⟨_,rfl⟩;have hww:=HW.out;rw [hwe] at hww;have hnn:=HNW.out;have hwr:IntKind.i64.wrap (s.now+we)=s.now+we:=wrap_small (by omega) (by omega)
          have hwt:(Lit.int .i64 (s.now+we)).wf=true:=wfT (by omega) (by omega)
          have HWT:=Lib.hid hwt;rw [hwh,hwp,hwe] at KW;simp only [Win] at KW;have hfld:∀ W,(Instr.field 200 (.agg #[.int .i64 wh,.int .i64 wp,.int .i64 we]) 2).run Tryz.prog W=.ok (.int .i64 we) W:=by intro W;kernel_rfl
          have HWE:=Lib.hid hwe;have wfn:=B2.wg HPG.out.2;have q0:w4.cell? ⟨y.c,0,none⟩=some (.int .i64 s.now):=by rw [←HNO.out];exact h4.c0
          have q4:=h4.c4;have q1:=h4.b1 HE1.out.2;have lf:=h4.lf HPG.out.2 wfn;have lf1:=fun j=>(h4.drewN j).lf HPG.out.2 wfn;have lf2:=h4.drew.lf HPG.out.2 wfn;have H4:=Lib.hid h4;clear hww hnn hwt hwh hwp hwe wfn h4;go_upto_region 8 with (go_at_call 62;with_reducible refine KI.out.mono ?_;rintro e5 w5 ⟨rfl,rfl⟩)
          go_region_with ((go_at_call 131;with_reducible refine KW.out.mono ?_;rintro e5 w6 ⟨rfl,hb6⟩;have f0:w6.cell? ⟨y.c,0,none⟩=some (.int .i64 s.now):=keep_c q0 hb6;have HB6:=Lib.hid hb6;clear hb6))
          all_goals
            (
             have h6:=H4.out.drew.below HB6.out;have KD:=Lib.hid (c_idle h6 B2 HE1.out.2 HPG.out.1 HPG.out.2 (s.now+we) HWT.out);have N6:=N4.drew.trans (Nx.below o4 HB6.out);clear f0 q0 q4 q1 lf lf1 lf2 h6;go_wp2_with (go_at_call 132;with_reducible refine KD.out.mono ?_;rintro e5 w7 ⟨rfl,o7,h7,n7⟩)
             go_ret
             rw [HE2.out];exact ⟨rfl,o7,by rw [HAT.out,HG.out,HWE.out];exact h7,N6.trans n7⟩)
theorem tend_none {s:St} {e:Ev} (h:s.mx.a e.n=none):s.tend e=(s,2):=by unfold St.tend;rw [h];rfl
theorem tend_7 {s:St} {e:Ev} {u:Unit} (h:s.mx.a e.n=some u) (hk:e.k=7):s.tend e=s.booted e.n:=by unfold St.tend;rw [h,if_pos (show (some u).isSome=true from rfl),if_pos hk]
theorem tend_9 {s:St} {e:Ev} {u:Unit} (h:s.mx.a e.n=some u) (hk:e.k=9):s.tend e=s.done e.n:=by unfold St.tend;rw [h,if_pos (show (some u).isSome=true from rfl),if_neg (by omega),if_pos hk]
theorem tend_8 {s:St} {e:Ev} {u:Unit} (h:s.mx.a e.n=some u) (hk:e.k≠7) (hk2:e.k≠9):s.tend e=((s.gone e.n).keep (s.B e.n).fn,0):=by unfold St.tend;rw [h,if_pos (show (some u).isSome=true from rfl),if_neg hk,if_neg hk2]
theorem Cor.wfn {w:World} {own:Nat→Option Tag} {y:Lay} {s:St} (_:Cor w own y s) {i:Int} (hi:1≤i∧i≤s.last) (hl:s.last<536870912):(KL i).wf=true:=wfK (by omega) (by omega)
theorem gone_box {K e:Nat} {s:St} (h:Inv K e s) {i:Int} {b:Bo} (hb:s.bx i=some b) (hu:upQ b.q=true):∃ b3,(s.gone i).bx i=some b3∧b3.fn=b.fn:=by
 have hid:=(h.bx i b hb).1;have hl:∀ s2:St,(s2.leave b.ho).bx=s2.bx:=fun s2=>by unfold St.leave;split <;> rfl
 have hd:∀ s2:St,s2.bx i=some b→(s2.die i).bx i=some (nx 3 b s2.now).1:=fun s2 h2=>by
  show updZ s2.bx (nx 3 (s2.B i) s2.now).1.id _ i=_;rw [St.B_of h2,show (nx 3 b s2.now).1.id=i from (nx_id 3 b s2.now).trans hid,updZ_same]
 unfold St.gone;rw [St.B_of hb];dsimp only;rw [hl]
 split
 ·exact ⟨_,hd _ hb,by rw [nx3 hu]⟩
 ·exact ⟨_,hd _ hb,by rw [nx3 hu]⟩
theorem Inv.tn1 {K e:Nat} {s:St} (h:Inv K e s):s.tn+1<1073741823:=by
 have:=h.tnle;have:=h.last;omega
theorem c_tend {w:World} {own:Nat→Option Tag} {y:Lay} {s:St} (h:Cor w own y s) {K:Nat} (hI:Inv (K+1000) 0 s) (k n l z r a m c v p:Int) (hwn:(KL n).wf=true) :
  Calls Tryz.prog 50 #[ptr y.c,.agg #[.int .i64 k,.int .i64 n,.int .i64 l,.int .i64 z,.int .i64 r,.int .i64 a,.int .i64 m,.int .i64 c,.int .i64 v,.int .i64 p]] w fun e w'=>e=.returned (.int .i64 (s.tend ⟨k,n,l,z,r,a,m,c,v,p⟩).2)∧Ty w own y (s.tend ⟨k,n,l,z,r,a,m,c,v,p⟩).1 w':=by
 have hb0:Below w.heap.size w (w.alloc (.cells #[.int .i64 k,.int .i64 n,.int .i64 l,.int .i64 z,.int .i64 r,.int .i64 a,.int .i64 m,.int .i64 c,.int .i64 v,.int .i64 p] 29)):=(Below.refl _ _).alloc (Nat.le_refl _) _;have hrow0:=heap_alloc_new w (.cells #[.int .i64 k,.int .i64 n,.int .i64 l,.int .i64 z,.int .i64 r,.int .i64 a,.int .i64 m,.int .i64 c,.int .i64 v,.int .i64 p] 29);have hf0:=h.fresh (Nat.le_refl w.heap.size);have HI:=Lib.hid hI;have HWN:=Lib.hid hwn;clear hI
 go_enter Tryz.func50,Tryz.ntmps50
 go_upto_region 1 with (fail)
 have h1:=h.below hb0;have HN1:=Lib.hid (Nx.below own hb0);obtain ⟨Hb,hHb⟩:∃ Hb,w.heap.size=Hb:=⟨_,rfl⟩;rw [hHb] at hrow0 hf0;rw [hHb];have HR1:=Lib.hid hrow0;have HF1:=Lib.hid hf0;clear hrow0 hf0 hb0 hHb h;generalize w.alloc (.cells #[.int .i64 k,.int .i64 n,.int .i64 l,.int .i64 z,.int .i64 r,.int .i64 a,.int .i64 m,.int .i64 c,.int .i64 v,.int .i64 p] 29)=w1 at h1 HN1 HR1 ⊢;have y1:=cell_of_row _ _ 1 _ _ _ HR1.out;have q7:=h1.c7
 cases hm:s.mx.a n with
 | none =>
  have HE:=Lib.hid (tend_none (s:=s) (e:=⟨k,n,l,z,r,a,m,c,v,p⟩) hm);have lk:=h1.lxN hm hwn;have lk1:=fun j=>(h1.drewN j).lxN hm hwn;have lk2:=h1.drew.lxN hm hwn;clear hm hwn;go_wp2_with fail
  go_quiet (fail)
  go_wp2_with fail
  go_ret
  rw [HE.out];exact ⟨rfl,Ty.of ⟨own,h1.drewN _,HN1.out.trans ⟨(Only.refl _ _).drewN _,fun _ q=>Or.inl q⟩⟩⟩
 | some um =>
  have lk:=h1.lxK hm hwn;have lk1:=fun j=>(h1.drewN j).lxK hm hwn;have lk2:=h1.drew.lxK hm hwn;have HM:=Lib.hid hm;obtain ⟨b,hb,hu⟩:=HI.out.alive (show (s.mx.a n).isSome=true by rw [hm];rfl)
  have HB:=Lib.hid (And.intro hb hu);clear hm hwn hb hu;go_wp2_with fail
  go_quiet (fail)
  have h2:=h1.drewN nq;have HR2:Hid ((w1.drewN nq).heap[Hb]?=_):=HR1;have HN2:=Lib.hid (HN1.out.trans (⟨(Only.refl _ _).drewN nq,fun _ q=>Or.inl q⟩:Nx w1 own (w1.drewN nq) own));clear lk lk1 lk2 y1 q7 h1 HR1 HN1;generalize w1.drewN nq=w2 at h2 HR2 HN2 ⊢;have y0:=cell_of_row _ _ 0 _ _ _ HR2.out
  by_cases h7:k=7
  ·have HE:=Lib.hid (tend_7 (s:=s) (e:=⟨k,n,l,z,r,a,m,c,v,p⟩) HM.out h7)
   have d:(k == 7)=true:=by simp [h7]
   have KB:=Lib.hid (c_booted h2 HI.out HB.out.1 HB.out.2);clear h7;go_wp2_with (go_at_call 90;with_reducible refine KB.out.mono ?_;rintro e w3 ⟨rfl,o3,h3,n3⟩)
   go_ret
   rw [HE.out];exact ⟨rfl,Ty.of ⟨o3,h3,HN2.out.trans n3⟩⟩
  ·have d:(k == 7)=false:=by simp [h7]
   by_cases h9:k=9
   ·have HE:=Lib.hid (tend_9 (s:=s) (e:=⟨k,n,l,z,r,a,m,c,v,p⟩) HM.out h9)
    have d9:(k == 9)=true:=by simp [h9]
    obtain ⟨_,pb,hpb,_⟩:=HI.out.onP n b HB.out.1 HB.out.2;obtain ⟨g,hg,_⟩:=HI.out.onF n b HB.out.1 HB.out.2;have Bs:=HI.out.bd (by omega)
    have htn:s.tn+1<1073741823:=HI.out.tn1;have KB:=Lib.hid (c_done h2 Bs HB.out.1 hpb hg htn);clear h7 h9 hpb hg Bs htn;go_wp2_with (go_at_call 91;with_reducible refine KB.out.mono ?_;rintro e w3 ⟨rfl,o3,h3,n3⟩)
    go_ret
    rw [HE.out];exact ⟨rfl,Ty.of ⟨o3,h3,HN2.out.trans n3⟩⟩
   ·have d9:(k == 9)=false:=by simp [h9]
    have HE:=Lib.hid (tend_8 (s:=s) (e:=⟨k,n,l,z,r,a,m,c,v,p⟩) HM.out h7 h9);obtain ⟨_,pb,hpb,_⟩:=HI.out.onP n b HB.out.1 HB.out.2;obtain ⟨g,hg,_⟩:=HI.out.onF n b HB.out.1 HB.out.2;have Bs:=HI.out.bd (by omega)
    have KG:=Lib.hid (c_gone h2 Bs HB.out.1 hpb hg);have hI3:=HI.out.goneI HB.out.1 HB.out.2;have hs3:=gone_some (f:=b.fn) HB.out.1 (by rw [hg];rfl)
    obtain ⟨g3,eg3⟩:=Option.isSome_iff_exists.1 hs3;have hB:s.B n=b:=St.B_of HB.out.1;have hbx3:∃ b3,(s.gone n).bx n=some b3∧b3.fn=b.fn:=gone_box HI.out HB.out.1 HB.out.2;obtain ⟨b3,hb3,hfn3⟩:=hbx3;have HBN:=Lib.hid hB;have HI3:=Lib.hid hI3;clear h7 h9 hpb hg Bs hs3 hI3 hB;go_wp2_with (go_at_call 88;with_reducible refine KG.out.mono ?_;rintro e w3 ⟨rfl,o3,h3,n3⟩)
    clear h2 KG y0;have HN3:=Lib.hid (HN2.out.trans n3);have B3:=HI3.out.bd (by omega)
    have wfn:=B3.wg eg3;have q4:=h3.c4;have q1:w3.cell? ⟨y.bx n,1,none⟩=some (.int .i64 b.fn):=by rw [←hfn3];exact h3.b1 hb3
    have lf:=h3.lf eg3 wfn;have lf1:=fun j=>(h3.drewN j).lf eg3 wfn;have lf2:=h3.drew.lf eg3 wfn;have KK:=Lib.hid (c_keep h3.drew eg3 HI3.out);clear n3 B3 wfn h3 hb3 hfn3;go_wp2_with fail
    go_still_tail 10,(by kernel_rfl)
    change wpList _ _ _ _ _ w3.drew;go_wp2_with (go_at_call 79;with_reducible refine KK.out.mono ?_;rintro e w4 ⟨rfl,b4,o4,h4,n4⟩)
    go_ret
    rw [HE.out,HBN.out];exact ⟨rfl,y.at_ b4,rfl,rfl,o4,h4,HN3.out.drew.trans n4⟩
end Go.Proofs.YthdengocipfgiaaGreat.W.C
