import Derived.Test.YthdengocipfgiaaGreatCcC
import Derived.Test.YthdengocipfgiaaGreatCbE
/- A part of what core's laws stand on. -/
set_option linter.unusedVariables false
set_option linter.unusedSimpArgs false
set_option maxRecDepth 100000
set_option maxHeartbeats 3200000
namespace Go.Proofs.YthdengocipfgiaaGreat.W.C
open Go.RowKit Go.Proofs.YthdengocipfgiaaGreat.W
attribute [local go_sem] Oper.semAt_some
theorem k_risingP {w:World} {own:Nat→Option Tag} {y:Lay} {s:St} (h:Cor w own y s) (B:Bd s) {x:Int} {p:Pl} (ep:s.pl.a x=some p) (hbx:∀ i,(p.bo.a i).isSome=true→∃ b,s.bx i=some b):Calls Tryz.prog 19 #[.map (some (y.pm x))] w fun e w'=>∃ G c,e=.returned (.slice (some ⟨G,0,none⟩) (ups p.bo s.last).length c)∧w'.ownsRow w.heap.size 45 1 (.slice (some ⟨G,0,none⟩) (ups p.bo s.last).length c) (ups p.bo s.last).length ((ups p.bo s.last).map (fun i=>ptr (y.bx i)))∧Below w.heap.size w w' :=
 c_rising w (y.pm x) p.bo.n (fun i=>(p.bo.a i).isSome) y.bx (fun i=>(p.bo.a i).map (fun _=>ptr (y.bx i))) _ ((h.ob (.pm x)) p ep).2 (fun i=>by cases p.bo.a i <;> simp) (by have:=B.pl _ _ ep;omega)
  (fun i q=>by
   obtain ⟨b,hb⟩:=hbx i q;have k:=h.b0 hb;rw [(B.bx i b hb).1] at k;exact k)
  (ups_pw _ _)
  (fun i=>by
   rw [mem_ups]
   constructor
   ·exact fun q=>q.2.2
   ·intro q
    obtain ⟨b,hb⟩:=hbx i q;have k:=B.bx i b hb;exact ⟨k.2.1,k.2.2.1,q⟩)
  (fun i q=>by
   obtain ⟨b,hb⟩:=hbx i q;have k:=B.bx i b hb;have:=B.last
   exact wfK (by omega) (by omega))
theorem drain_no {s:St} {x:Int} (h:drC s.H x≠0):s.drain x=(s,drC s.H x):=by unfold St.drain;rw [if_neg h]
theorem drain_yes {s:St} {x:Int} {p:Pl} (ep:s.pl.a x=some p) (h:drC s.H x=0):s.drain x=((((({ s with H:=drH s.H x }:St).drainL (ups p.bo s.last)).leave x).keepAll 64),0):=by
 unfold St.drain;rw [if_pos h,St.P_of ep]
theorem fail_no {s:St} {x:Int} (h:(s.H x).isSome=false):s.fail x=(s,2):=by unfold St.fail;rw [h];rfl
theorem fail_yes {s:St} {x:Int} {p:Pl} (ep:s.pl.a x=some p) (h:(s.H x).isSome=true):s.fail x=(((({ s.goneL (ups p.bo s.last) with H:=updZ (s.goneL (ups p.bo s.last)).H x none }:St).leave x).keepAll 64),0):=by
 unfold St.fail;rw [if_pos h,St.P_of ep]
theorem Inv.drain1 {K:Nat} {s:St} (h:Inv K 0 s) {x:Int} (hx:drC s.H x=0):∃ z u p,s.H x=some (false,z,u)∧s.pl.a x=some p∧0≤x∧x<32∧Inv K 0 ({ s with H:=drH s.H x }:St):=by
 have hH:∃ z u,s.H x=some (false,z,u):=by
  unfold drC at hx
  cases q:s.H x with
  | none=>rw [q] at hx;simp at hx
  | some t =>
   obtain ⟨d,z,u⟩:=t;rw [q] at hx
   cases d with
   | false=>exact ⟨z,u,rfl⟩
   | true=>simp at hx
 obtain ⟨z,u,hH⟩:=hH;have hho:=h.ho _ _ _ _ hH;obtain ⟨p,ep⟩:=Option.isSome_iff_exists.1 hho.2.2.2.2.2.1;refine ⟨z,u,p,hH,ep,hho.1,hho.2.1,?_⟩;have hd:drH s.H x=updZ s.H x (lv true z u):=by unfold drH;rw [hH]
 rw [hd]
 exact h.hosts (x:=x) (o:=lv true z u) (fun d' z' u' q=>by
  unfold lv at q
  split at q
  ·cases q
  ·cases q;exact hho) (fun q=>by
  unfold lv at q
  split at q
  ·rename_i hu0
   have hu0:=hu0.2;subst hu0;exact h.free0 hH
  ·cases q)
theorem Inv.fail1 {K e:Nat} {s:St} (h:Inv K e s) {x:Int} {p:Pl} (ep:s.pl.a x=some p):Inv K e ({ s.goneL (ups p.bo s.last) with H:=updZ (s.goneL (ups p.bo s.last)).H x none }:St):=by
 obtain ⟨h1,h2⟩:=h.goneL (ups p.bo s.last) (ups_nodup _ _) (h.on_mx ep);refine h1.hosts (x:=x) (o:=none) (fun _ _ _ q=>nomatch q) (fun _ i b hb hq e=>?_);obtain ⟨k1,k2⟩:=h2 i b hb hq;obtain ⟨_,p',ep',hbo⟩:=h.onP i b k1 hq;rw [e,ep] at ep';cases ep';have:=h.bx i b k1
 exact k2 (mem_ups.2 ⟨by omega,by omega,hbo⟩)
theorem drainL_cons {s:St} {i:Int} {l:List Int}:s.drainL (i :: l)=(if (s.B i).q.runs then s.unpin i else s.kill i).drainL l:=rfl
theorem goneL_cons {s:St} {i:Int} {l:List Int}:s.goneL (i :: l)=(s.gone i).goneL l:=rfl
theorem unpin_mx {s:St} {i j:Int}:(s.unpin i).mx.a j=s.mx.a j:=rfl
theorem kill_mx {s:St} {i j:Int} {b:Bo} (hb:s.bx i=some b):(s.kill i).mx.a j=if j=i then none else s.mx.a j:=pos_of_gone hb j
theorem c_drainHost {w:World} {own:Nat→Option Tag} {y:Lay} {s:St} (h:Cor w own y s) {K:Nat} (hI:Inv (K+64000) 0 s) (x:Int) :
  Calls Tryz.prog 48 #[ptr y.c,.int .i64 x] w fun e w'=>e=.returned (.int .i64 (s.drain x).2)∧Ty w own y (s.drain x).1 w':=by
 have N0:=Nx.refl w own;have h0:=h;clear h;have q0:=h0.c5;have ka:=k_hdrain h0 x;obtain ⟨v,hv⟩:∃ v,drC s.H x=v:=⟨_,rfl⟩;rw [hv] at ka;have KA:=Lib.hid ka;clear ka
 by_cases hz:v=0
 ·subst hz
  obtain ⟨z,u,p,hH,ep,hx0,hx1,hI1⟩:=hI.drain1 hv;have HE:=Lib.hid (drain_yes ep hv);have hmem:=hI.on_mx ep;obtain ⟨s1,hs1⟩:∃ s1:St,({ s with H:=drH s.H x }:St)=s1:=⟨_,rfl⟩;have hlast:s1.last=s.last:=by rw [←hs1]
  have hmx1:s1.mx=s.mx:=by rw [←hs1]
  have ep1:s1.pl.a x=some p:=by rw [←hs1];exact ep
  rw [hs1] at hI1 HE KA;have hw1:(KL x).wf=true:=wfK (by omega) (by omega)
  clear hH hx0 hx1 hv hI hs1
  go_enter Tryz.func48,Tryz.ntmps48
  go_wp2_with fail
  with_reducible refine KA.out.mono ?_
  rintro e w1 ⟨rfl,o1,h1,n1⟩;have N1:=N0.trans n1;clear q0 N0 n1 h0 KA;have B1:=hI1.bd (by omega)
  have kr:=k_risingP h1 B1 ep1 (fun i q=>by obtain ⟨b,hb,_⟩:=hI1.bo x p i ep1 q;exact ⟨b,hb⟩)
  rw [hlast] at kr;have hnd:=ups_nodup p.bo s.last;obtain ⟨R,hR⟩:∃ R,ups p.bo s.last=R:=⟨_,rfl⟩;rw [hR] at kr HE hmem hnd;have KR:=Lib.hid kr;have HMEM:=Lib.hid hmem;have HND:=Lib.hid hnd;have HI1:=Lib.hid hI1;have HWX:=Lib.hid hw1;have q6:=h1.c6;have ql:=h1.lp ep1 hw1;have qp:=h1.p0 ep1;clear kr hmem hnd hR hI1 B1;go_wp2_with fail
  with_reducible refine KR.out.mono ?_
  rintro e w2 ⟨gs,cp,rfl,own2,b2⟩;have h2:=h1.below b2;have hgs:=(own_cap own2).2.2;have hgn:=h1.fresh hgs;have HC:Hid (∀ k (hk:k<R.length),w2.cell? ⟨gs,k,none⟩=some (ptr (y.bx R[k]))):=Lib.hid (fun k hk=>by have:=lies_cell own2 (k:=k) (by simpa using hk);simpa using this)
  have HN2:=Lib.hid (N1.trans (Nx.below _ b2));have HGN:=Lib.hid hgn;obtain ⟨N,hN⟩:∃ N,R.length=N:=⟨_,rfl⟩;have HNN:=Lib.hid hN;have hNc:=(own_cap own2).1;have hNm:=own_max own2;rw [hN] at hNc;rw [hN];clear own2 b2 hgs hgn hN KR q6 ql qp h1 N1;go_wp2_with fail
  obtain ⟨r,hr0⟩:∃ r,s1.drainL R=r:=⟨_,rfl⟩;rw [hr0] at HE;have HR0:=Lib.hid hr0;clear hr0
  go_loopg [28] N (fun gk v28 wr=>∃ (k:Nat) (own':Nat→Option Tag) (sk:St),v28=.int .i64 (k:Int)∧Hid (k+gk=N)∧Cor wr own' y sk∧Hid (Nx w2 o1 wr own')∧Hid (Inv (K+64000) 0 sk)∧Hid (∀ i ∈ R.drop k,(sk.mx.a i).isSome=true)∧Hid (sk.drainL (R.drop k)=r))
  case atStart=>exact ⟨0,o1,s1,rfl,Lib.hid (by omega),h2,Lib.hid (Nx.refl _ _),HI1,Lib.hid (by simpa [hmx1] using HMEM.out),Lib.hid (by simpa using HR0.out)⟩
  case round =>
   clear h2;obtain ⟨k,own',sk,rfl,HG,hr,HNX,HI,HM,HP⟩:=hrel
   by_cases hk:k<N
   ·have hkI:(k:Int)<(N:Int):=by omega
    have HK:=Lib.hid hk;have hkR:k<R.length:=by rw [HNN.out];exact hk
    obtain ⟨i,hi⟩:∃ i,R[k]=i:=⟨_,rfl⟩;have hdr:R.drop k=i :: R.drop (k+1):=by rw [←hi];exact List.drop_eq_getElem_cons hkR
    have cc:wr.cell? ⟨gs,k,none⟩=some (ptr (y.bx i)):=by rw [←hi];exact HNX.out.cell HGN.out (HC.out k hkR)
    have hni:i ∉ R.drop (k+1):=by
     have:(R.drop k).Nodup:=HND.out.sublist (List.drop_sublist _ _)
     rw [hdr,List.nodup_cons] at this;exact this.1
    obtain ⟨b,hb,hu⟩:=HI.out.alive (HM.out i (by rw [hdr];simp))
    obtain ⟨_,pb,hpb,_⟩:=HI.out.onP i b hb hu;obtain ⟨g,hg,_⟩:=HI.out.onF i b hb hu;have Bk:=HI.out.bd (by omega)
    have HDR:=Lib.hid hdr;have HNI:=Lib.hid hni;have HBB:=Lib.hid hb;have HUU:=Lib.hid hu;have KRU:=Lib.hid (k_runs hr hb);have KU:=Lib.hid (c_unpin hr Bk hb hg);have KK:=Lib.hid (c_kill hr Bk hb hpb hg);have hst:sk.drainL (i :: R.drop (k+1))=(if b.q.runs then sk.unpin i else sk.kill i).drainL (R.drop (k+1)):=by rw [drainL_cons,St.B_of hb]
    have HST:=Lib.hid hst;obtain ⟨br,hbr⟩:∃ br,b.q.runs=br:=⟨_,rfl⟩;rw [hbr] at KRU HST;clear hk hkR hi hdr hni hb hu hpb hg Bk hst hbr
    cases br with
    | true =>
     go_wp2_with (first
      | (with_reducible refine wpList_item_at rfl 73 (.tmp 26) (.tmp 28) rfl 45 Tryz.underlying73 sizeBP gs N cp rfl k _ rfl rfl HK.out ?_)
       | (go_at_call 84;with_reducible refine KRU.out.mono ?_;rintro e w' ⟨rfl,rfl⟩))
     go_wp2_with fail
     with_reducible refine KU.out.mono ?_
     rintro e w3 ⟨rfl,own2,h2,n2⟩;clear hr KU KK KRU cc;go_wp2_with fail
     go_roundg (N-k-1)
     case measure=>have:=HK.out;have:=HG.out;omega
     case rel =>
      refine ⟨k+1,own2,_,by go_num,Lib.hid (by have:=HK.out;omega),h2,Lib.hid (HNX.out.trans n2),Lib.hid (HI.out.unpin HBB.out HUU.out),Lib.hid (fun j hj=>?_),Lib.hid ?_⟩
      ·have h3:=HM.out j (by rw [HDR.out];exact List.mem_cons_of_mem _ hj)
       have hne:j≠i:=fun e=>HNI.out (e ▸ hj);rw [unpin_mx];exact h3
      ·rw [←HP.out,HDR.out]
       exact HST.out.symm
    | false =>
     go_wp2_with (first
      | (with_reducible refine wpList_item_at rfl 73 (.tmp 26) (.tmp 28) rfl 45 Tryz.underlying73 sizeBP gs N cp rfl k _ rfl rfl HK.out ?_)
       | (go_at_call 84;with_reducible refine KRU.out.mono ?_;rintro e w' ⟨rfl,rfl⟩))
     go_wp2_with fail
     with_reducible refine KK.out.mono ?_
     rintro e w3 ⟨rfl,own2,h2,n2⟩;clear hr KU KK KRU cc;go_wp2_with fail
     go_roundg (N-k-1)
     case measure=>have:=HK.out;have:=HG.out;omega
     case rel =>
      refine ⟨k+1,own2,_,by go_num,Lib.hid (by have:=HK.out;omega),h2,Lib.hid (HNX.out.trans n2),Lib.hid (HI.out.kill HBB.out HUU.out),Lib.hid (fun j hj=>?_),Lib.hid ?_⟩
      ·have h3:=HM.out j (by rw [HDR.out];exact List.mem_cons_of_mem _ hj)
       have hne:j≠i:=fun e=>HNI.out (e ▸ hj);rw [kill_mx HBB.out,if_neg hne];exact h3
      ·rw [←HP.out,HDR.out]
       exact HST.out.symm
   ·obtain rfl:k=N:=by have:=HG.out;omega
    have hdr:R.drop k=[]:=List.drop_eq_nil_of_le (by rw [HNN.out];omega)
    have hrs:r=sk:=by rw [←HP.out,hdr];rfl
    have HRS:=Lib.hid hrs;clear hrs hdr hk;have hI3:=HI.out.leave x;have KL3:=Lib.hid (c_leave hr HWX.out);clear hr;go_wp2_with fail
    with_reducible refine KL3.out.mono ?_
    rintro e w3 ⟨rfl,o3,h3,n3⟩;have KK:=Lib.hid (c_keepAll h3 hI3);clear KL3 h3 hI3;go_wp2_with fail
    with_reducible refine KK.out.mono ?_
    rintro e w4 ⟨rfl,b4,o4,h4,n4⟩;go_wp2_with fail
    go_ret
    rw [HE.out,HRS.out];exact ⟨rfl,y.at_ b4,rfl,rfl,o4,h4,HN2.out.trans (HNX.out.trans (n3.trans n4))⟩
 ·have d:(v == 0)=false:=by simp [hz]
  have HE:=Lib.hid (drain_no (by rw [hv];exact hz))
  have hH:drH s.H x=s.H:=by
   unfold drH
   cases q:s.H x with
   | none=>rfl
   | some t =>
    obtain ⟨dd,z,u⟩:=t
    cases dd with
    | true=>rfl
    | false=>exact absurd (by rw [←hv];unfold drC;rw [q]) hz
  rw [hH] at KA;have HV:=Lib.hid hv;clear hz hv hI
  go_enter Tryz.func48,Tryz.ntmps48
  go_wp2_with fail
  with_reducible refine KA.out.mono ?_
  rintro e w1 ⟨rfl,o1,h1,n1⟩;go_wp2_with fail
  go_ret
  rw [HE.out,HV.out];exact ⟨rfl,Ty.of ⟨o1,h1,n1⟩⟩
theorem c_failHost {w:World} {own:Nat→Option Tag} {y:Lay} {s:St} (h:Cor w own y s) {K:Nat} (hI:Inv (K+64000) 0 s) (x:Int) :
  Calls Tryz.prog 49 #[ptr y.c,.int .i64 x] w fun e w'=>e=.returned (.int .i64 (s.fail x).2)∧Ty w own y (s.fail x).1 w':=by
 have N0:=Nx.refl w own;have h0:=h;clear h;have q0:=h0.c5;have ka:=k_there h0 x
 cases hv:(s.H x).isSome with
 | true =>
  obtain ⟨⟨d0,z,u⟩,hH⟩:=Option.isSome_iff_exists.1 hv;have hho:=hI.ho _ _ _ _ hH;obtain ⟨p,ep⟩:=Option.isSome_iff_exists.1 hho.2.2.2.2.2.1;have HE:=Lib.hid (fail_yes ep hv);have hmem:=hI.on_mx ep;have hw1:(KL x).wf=true:=wfK (by omega) (by omega)
  have HIF:=Lib.hid (hI.fail1 ep);rw [hv] at ka;have KA:=Lib.hid ka;obtain ⟨s1,hs1⟩:∃ s1:St,s=s1:=⟨_,rfl⟩;subst hs1;have hI1:=hI;have ep1:=ep;clear ka hH hho hv hI
  go_enter Tryz.func49,Tryz.ntmps49
  go_wp2_with fail
  with_reducible refine KA.out.mono ?_
  rintro e w1 ⟨rfl,rfl⟩;obtain ⟨o1,ho1⟩:∃ o1,own=o1:=⟨_,rfl⟩;subst ho1;have h1:=h0;have N1:=N0;clear q0 N0 h0 KA;have B1:=hI1.bd (by omega)
  have kr:=k_risingP h1 B1 ep1 (fun i q=>by obtain ⟨b,hb,_⟩:=hI1.bo x p i ep1 q;exact ⟨b,hb⟩)
  skip
  have hnd:=ups_nodup p.bo s.last;obtain ⟨R,hR⟩:∃ R,ups p.bo s.last=R:=⟨_,rfl⟩;rw [hR] at kr HE hmem hnd;rw [hR] at HIF;have KR:=Lib.hid kr;have HMEM:=Lib.hid hmem;have HND:=Lib.hid hnd;have HI1:=Lib.hid hI1;have HWX:=Lib.hid hw1;have q6:=h1.c6;have ql:=h1.lp ep1 hw1;have qp:=h1.p0 ep1;clear kr hmem hnd hR hI1 B1;go_wp2_with fail
  with_reducible refine KR.out.mono ?_
  rintro e w2 ⟨gs,cp,rfl,own2,b2⟩;have h2:=h1.below b2;have hgs:=(own_cap own2).2.2;have hgn:=h1.fresh hgs;have HC:Hid (∀ k (hk:k<R.length),w2.cell? ⟨gs,k,none⟩=some (ptr (y.bx R[k]))):=Lib.hid (fun k hk=>by have:=lies_cell own2 (k:=k) (by simpa using hk);simpa using this)
  have HN2:=Lib.hid (N1.trans (Nx.below _ b2));have HGN:=Lib.hid hgn;obtain ⟨N,hN⟩:∃ N,R.length=N:=⟨_,rfl⟩;have HNN:=Lib.hid hN;have hNc:=(own_cap own2).1;have hNm:=own_max own2;rw [hN] at hNc;rw [hN];clear own2 b2 hgs hgn hN KR q6 ql qp h1 N1;go_wp2_with fail
  obtain ⟨r,hr0⟩:∃ r,s.goneL R=r:=⟨_,rfl⟩;rw [hr0] at HE;have HR0:=Lib.hid hr0;clear hr0
  go_loopg [25] N (fun gk v25 wr=>∃ (k:Nat) (own':Nat→Option Tag) (sk:St),v25=.int .i64 (k:Int)∧Hid (k+gk=N)∧Cor wr own' y sk∧Hid (Nx w2 own wr own')∧Hid (Inv (K+64000) 0 sk)∧Hid (∀ i ∈ R.drop k,(sk.mx.a i).isSome=true)∧Hid (sk.goneL (R.drop k)=r))
  case atStart=>exact ⟨0,own,s,rfl,Lib.hid (by omega),h2,Lib.hid (Nx.refl _ _),HI1,Lib.hid (by simpa using HMEM.out),Lib.hid (by simpa using HR0.out)⟩
  case round =>
   clear h2;obtain ⟨k,own',sk,rfl,HG,hr,HNX,HI,HM,HP⟩:=hrel
   by_cases hk:k<N
   ·have hkI:(k:Int)<(N:Int):=by omega
    have HK:=Lib.hid hk;have hkR:k<R.length:=by rw [HNN.out];exact hk
    obtain ⟨i,hi⟩:∃ i,R[k]=i:=⟨_,rfl⟩;have hdr:R.drop k=i :: R.drop (k+1):=by rw [←hi];exact List.drop_eq_getElem_cons hkR
    have cc:wr.cell? ⟨gs,k,none⟩=some (ptr (y.bx i)):=by rw [←hi];exact HNX.out.cell HGN.out (HC.out k hkR)
    have hni:i ∉ R.drop (k+1):=by
     have:(R.drop k).Nodup:=HND.out.sublist (List.drop_sublist _ _)
     rw [hdr,List.nodup_cons] at this;exact this.1
    obtain ⟨b,hb,hu⟩:=HI.out.alive (HM.out i (by rw [hdr];simp))
    obtain ⟨_,pb,hpb,_⟩:=HI.out.onP i b hb hu;obtain ⟨g,hg,_⟩:=HI.out.onF i b hb hu;have Bk:=HI.out.bd (by omega)
    have HDR:=Lib.hid hdr;have HNI:=Lib.hid hni;have HBB:=Lib.hid hb;have HUU:=Lib.hid hu;have KK:=Lib.hid (c_gone hr Bk hb hpb hg);clear hk hkR hi hdr hni hb hu hpb hg Bk
    go_wp2_with (first
     | (with_reducible refine wpList_item_at rfl 73 (.tmp 23) (.tmp 25) rfl 45 Tryz.underlying73 sizeBP gs N cp rfl k _ rfl rfl HK.out ?_))
    go_wp2_with fail
    with_reducible refine KK.out.mono ?_
    rintro e w3 ⟨rfl,own2,h2,n2⟩;clear hr KK cc;go_wp2_with fail
    go_roundg (N-k-1)
    case measure=>have:=HK.out;have:=HG.out;omega
    case rel =>
     refine ⟨k+1,own2,_,by go_num,Lib.hid (by have:=HK.out;omega),h2,Lib.hid (HNX.out.trans n2),Lib.hid (HI.out.goneI HBB.out HUU.out),Lib.hid (fun j hj=>?_),Lib.hid ?_⟩
     ·have h3:=HM.out j (by rw [HDR.out];exact List.mem_cons_of_mem _ hj)
      have hne:j≠i:=fun e=>HNI.out (e ▸ hj);rw [pos_of_gone HBB.out,if_neg hne];exact h3
     ·rw [←HP.out,HDR.out]
      exact goneL_cons.symm
   ·obtain rfl:k=N:=by have:=HG.out;omega
    have hdr:R.drop k=[]:=List.drop_eq_nil_of_le (by rw [HNN.out];omega)
    have hrs:r=sk:=by rw [←HP.out,hdr];rfl
    have HRS:=Lib.hid hrs;clear hrs hdr hk;have hI2:=HIF.out;rw [show s.goneL R=r from HR0.out,HRS.out] at hI2
    have q5:=hr.c5;have KF:=Lib.hid (k_hfail hr x);clear hr;go_wp2_with fail
    with_reducible refine KF.out.mono ?_
    rintro e w3 ⟨rfl,o3,h3,n3⟩;obtain ⟨s3,hs3⟩:∃ s3:St,({ sk with H:=updZ sk.H x none }:St)=s3:=⟨_,rfl⟩;rw [hs3] at h3 hI2;have HS3:=Lib.hid hs3;have hI3:=hI2.leave x;have KL3:=Lib.hid (c_leave h3 HWX.out);clear q5 KF h3 hs3 hI2;go_wp2_with fail
    with_reducible refine KL3.out.mono ?_
    rintro e w4 ⟨rfl,o4,h4,n4⟩;have KK:=Lib.hid (c_keepAll h4 hI3);clear KL3 h4 hI3;go_wp2_with fail
    with_reducible refine KK.out.mono ?_
    rintro e w5 ⟨rfl,b5,o5,h5,n5⟩;go_wp2_with fail
    go_ret
    rw [HE.out,HRS.out,HS3.out];exact ⟨rfl,y.at_ b5,rfl,rfl,o5,h5,HN2.out.trans (HNX.out.trans (n3.trans (n4.trans n5)))⟩
 | false =>
  have HE:=Lib.hid (fail_no hv);rw [hv] at ka;have KA:=Lib.hid ka;clear ka hv hI
  go_enter Tryz.func49,Tryz.ntmps49
  go_wp2_with fail
  with_reducible refine KA.out.mono ?_
  rintro e w1 ⟨rfl,rfl⟩;go_wp2_with fail
  go_ret
  rw [HE.out];exact ⟨rfl,Ty.of ⟨own,h0,N0⟩⟩
end Go.Proofs.YthdengocipfgiaaGreat.W.C
