import Derived.Test.YthdengocipfgiaaGreatCbB
import Derived.Deep.CutBlock
/- A part of what core's laws stand on. -/
set_option linter.unusedVariables false
set_option linter.unusedSimpArgs false
set_option maxRecDepth 100000
set_option maxHeartbeats 6400000
namespace Go.Proofs.YthdengocipfgiaaGreat.W.C
open Go.RowKit Go.Proofs.YthdengocipfgiaaGreat.W
theorem k_wsetI {w:World} {own:Nat→Option Tag} {y:Lay} {s:St} (h:Cor w own y s) {x:Int} {p:Pl} (e:s.pl.a x=some p) (i of co m:Int) (hi:(KL i).wf=true) (hcl:p.cl≤1125899906842624) (h1:0≤of) (h2:of≤1000) (h3:0≤co) (h4:co≤1000) (h5:1≤m) (h6:m≤4096) (hn:p.cn<1073741823) :
  Calls Tryz.prog 175 #[ptr (y.pc x),.int .i64 i,.int .u64 of,.int .u64 co,.int .u64 m] w fun e w'=>e=.returned (.bool true)∧To w own y (s.setP x { p with cl:=p.cl,cn:=if (p.ca i).isSome then p.cn else p.cn+1,ca:=updZ p.ca i (some (p.cl*m.toNat+of.toNat*co.toNat,m.toNat,i)) }) w':=by
 obtain ⟨a,rfl⟩:∃ a:Nat,of=(a:Int):=⟨of.toNat,by omega⟩
 obtain ⟨b,rfl⟩:∃ a:Nat,co=(a:Int):=⟨co.toNat,by omega⟩
 obtain ⟨c,rfl⟩:∃ a:Nat,m=(a:Int):=⟨m.toNat,by omega⟩
 have hab:a*b≤1000*1000:=Nat.mul_le_mul (by omega) (by omega)
 have hcm:p.cl*c≤1125899906842624*4096:=Nat.mul_le_mul hcl (by omega)
 exact k_wset h e i a b c hi (by omega) (by omega) (by omega) (by omega) (by omega) hn
theorem wrapU {x:Int} (h0:0≤x) (h1:x≤18446744073709551615):IntKind.u64.wrap x=x:=by simp [IntKind.wrap,IntKind.bits,IntKind.signed];omega
theorem c_set {w:World} {own:Nat→Option Tag} {y:Lay} {s:St} (h:Cor w own y s) (B:Bd s) {i:Int} {b:Bo} (e:s.bx i=some b) {x:Int} {p:Pl} (ep:s.pl.a x=some p) {f:Int} {g:Fu} (eg:s.fu.a f=some g):Calls Tryz.prog 152 #[ptr (y.pb x),ptr (y.bx i),ptr (y.fb f)] w fun e w'=>e=.returned (.tuple #[])∧To w own y (s.setP x (putP p b g)) w':=by
 have N0:=Nx.refl w own;have h0:=h;clear h;have bp:=B.pl _ _ ep;have bb:=B.bx _ _ e;have bg:=B.fu _ _ eg;have wfi:=(B.wb e).1;obtain rfl:=bb.1;have hwr:IntKind.i64.wrap (p.sp+b.me)=p.sp+b.me:=wrap_small (by omega) (by omega)
 have hu1:=wrapU (x:=g.often) (by omega) (by omega)
 have hu2:=wrapU (x:=g.cost) (by omega) (by omega)
 have hu3:=wrapU (x:=b.me) (by omega) (by omega)
 have H1:=Lib.hid bp;have H2:=Lib.hid bb;have H3:=Lib.hid bg;clear bp bb bg;have q0:=h0.p1 ep;have q1:=h0.b0 e;have q2:=h0.b3 e;have q3:=h0.g5 eg;have q4:=h0.g3 eg
 go_enter Tryz.func152,Tryz.ntmps152
 go_wp2_with fail
 go_still_tail 23,(by kernel_rfl)
 change wpList _ _ _ _ _ w.drew;have h1:=h0.drew;have N1:=N0.drew;clear q0 q1 q2 q3 q4;generalize w.drew=w1 at h1 N1 ⊢;clear h0 N0;go_wp2_with fail
 refine (k_wsetI h1 ep b.id g.often g.cost b.me wfi (by have:=H1.out;omega) (by have:=H3.out;omega) (by have:=H3.out;omega) (by have:=H3.out;omega) (by have:=H3.out;omega) (by have:=H2.out;omega) (by have:=H2.out;omega) (by have:=H1.out;omega)).mono ?_
 rintro e1 w2 ⟨rfl,o2,h2,n2⟩;have N2:=N1.trans n2;clear N1 n2 h1;obtain ⟨p1,hp1⟩:∃ p1,({ p with cl:=p.cl,cn:=if (p.ca b.id).isSome then p.cn else p.cn+1,ca:=updZ p.ca b.id (some (p.cl*b.me.toNat+g.often.toNat*g.cost.toNat,b.me.toNat,b.id)) }:Pl)=p1:=⟨_,rfl⟩;rw [hp1] at h2;have hsp:p1.sp=p.sp:=by rw [←hp1]
 have HSP:=Lib.hid hsp;clear hsp;have e1:=setP_at s x p1;clear hu1 hu2 hu3;go_wp2_with fail
 have q5:=(show w2.cell? ⟨y.pb x,2,none⟩=some (.int .i64 p.sp) from by rw [←HSP.out];exact h2.p2 e1)
 have q6:=h2.b3 (show (s.setP x p1).bx b.id=some b from e)
 go_still_tail 11,(by kernel_rfl)
 change wpList _ _ _ _ _ w2.drew;have h3:=h2.drew;have N3:=N2.drew;clear q5 q6;generalize w2.drew=w3 at h3 N3 ⊢;clear h2 N2;have hr:=((h3.ob (.pb x)) _ e1).2;refine wpList_store_in rfl 3 (.tmp 40) (.tmp 38) rfl (by kernel_rfl) (y.pb x) 2 rfl .i64 (p.sp+b.me) rfl _ _ hr (by simp [prow]) ?_
 intro w4 m4 g4;obtain ⟨h4,n4⟩:=Cor.pb h3 e1 (x:=p.sp+b.me) m4.out g4;have N4:=N3.trans n4;rw [setP_setP] at h4
 go_wp2
 go_end0
 exact ⟨rfl,_,by rw [show putP p b g={ p1 with sp:=p.sp+b.me } by rw [←hp1];rfl];exact h4,N4⟩
theorem c_idle {w:World} {own:Nat→Option Tag} {y:Lay} {s:St} (h:Cor w own y s) (B:Bd s) {i:Int} {b:Bo} (e:s.bx i=some b) {p:Pl} (ep:s.pl.a b.ho=some p) {g:Fu} (eg:s.fu.a b.fn=some g) (t:Int) (hwt:(Lit.int .i64 t).wf=true):Calls Tryz.prog 132 #[ptr y.c,ptr (y.bx i),.int .i64 t] w fun e w'=>e=.returned (.tuple #[])∧To w own y (s.idle i t) w':=by
 have N0:=Nx.refl w own;have h0:=h;clear h;have wf:=B.wb e;obtain rfl:=(B.bx _ _ e).1
 by_cases ht:t≤s.now
 ·have d:decide (t≤s.now)=true:=decide_eq_true ht
  have q0:=h0.c0
  go_enter Tryz.func132,Tryz.ntmps132
  go_wp2_with fail
  refine (c_kill h0 B e ep eg).mono ?_;rintro e0 w1 ⟨rfl,o1,h1,n1⟩;have N1:=N0.trans n1;clear q0;clear N0 n1 h0
  go_wp2
  (try simp only [Exit.inBlock,Exit.then]);refine bodyPost_ret (results_none rfl _ _ _) rfl ?_
  exact ⟨rfl,_,by unfold St.idle;rw [if_pos ht];exact h1,N1⟩
 ·have d:decide (t≤s.now)=false:=dec_f ht
  have H:=Lib.hid ht;clear ht;have q1:=h0.c0
  go_enter Tryz.func132,Tryz.ntmps132
  go_wp2_with fail
  clear q1;have q2:=h0.c6;have q3:=h0.b2 e;have q4:=h0.c4;have q5:=h0.b1 e;have q6:=fun y=>(h0.drewN y).lp ep wf.2.2.1;have q7:=h0.drew.lp ep wf.2.2.1;have q8:=h0.lp ep wf.2.2.1;have q9:=fun y=>(h0.drewN y).lf eg wf.2.2.2;have q10:=h0.drew.lf eg wf.2.2.2;have q11:=h0.lf eg wf.2.2.2
  go_still_tail 19,(by kernel_rfl)
  change wpList _ _ _ _ _ w.drew;have h1:=h0.drew;have N1:=N0.drew;clear q2 q3 q4 q5 q6 q7 q8 q9 q10 q11;generalize w.drew=w1 at h1 N1 ⊢;clear h0 N0;go_wp2_with fail
  refine (c_set h1 B e ep eg).mono ?_;rintro e1 w2 ⟨rfl,o2,h2,n2⟩;have N2:=N1.trans n2;clear N1 n2 h1;have e1:(s.setP b.ho (putP p b g)).bx b.id=some b:=e;go_wp2_with fail
  have q12:=h2.c9;have q13:=h2.b0 e1
  go_still_tail 10,(by kernel_rfl)
  change wpList _ _ _ _ _ w2.drew;have h3:=h2.drew;have N3:=N2.drew;clear q12 q13;generalize w2.drew=w3 at h3 N3 ⊢;clear h2 N2;go_wp2_with fail
  refine (k_tset h3 (0,b.id) t ⟨show (KL 0).wf=true by decide,wf.2.1⟩ hwt (by have:=B.tn;show s.tn<_;omega)).mono ?_
  rintro e3 w4 ⟨rfl,o4,h4,n4⟩;have N4:=N3.trans n4;clear N3 n4 h3
  go_wp2
  go_end0
  exact ⟨rfl,_,by unfold St.idle;rw [if_neg (by have:=H.out;omega),St.B_of e,St.P_of ep,St.G_of eg];exact h4,N4⟩
theorem c_unpin {w:World} {own:Nat→Option Tag} {y:Lay} {s:St} (h:Cor w own y s) (B:Bd s) {i:Int} {b:Bo} (e:s.bx i=some b) {g:Fu} (eg:s.fu.a b.fn=some g):Calls Tryz.prog 85 #[ptr y.c,ptr (y.bx i)] w fun e w'=>e=.returned (.tuple #[])∧To w own y (s.unpin i) w':=by
 have N0:=Nx.refl w own;have h0:=h;clear h;have wf:=B.wb e;obtain rfl:=(B.bx _ _ e).1;have hlen:6<(brow b).length:=by unfold brow;simp
 have hlim:=B.fu _ _ eg;have hml:(1073741824:Nat)<maxLen:=by decide
 have H:=Lib.hid hlim;clear hlim;have q0:=h0.c4;have q1:=h0.b1 e;have q2:=fun y=>(h0.drewN y).lf eg wf.2.2.2;have q3:=h0.drew.lf eg wf.2.2.2;have q4:=h0.lf eg wf.2.2.2
 go_enter Tryz.func85,Tryz.ntmps85
 go_wp2_with fail
 go_still_tail 9,(by kernel_rfl)
 change wpList _ _ _ _ _ w.drew;have h1:=h0.drew;have N1:=N0.drew;clear q0 q1 q2 q3 q4;generalize w.drew=w1 at h1 N1 ⊢;clear h0 N0;have hr:w1.heap[y.bx b.id]?=some (.cells (brow b).toArray 43 (0,0)):=((h1.ob (.bx b.id)) _ e).2;go_wp2_with (with_reducible refine wpList_store_boolin rfl 4 (.tmp 16) (.const (.bool false)) rfl (by kernel_rfl) (y.bx b.id) 6 rfl false rfl _ _ hr hlen ?_;intro w2 m2 g2)
 obtain ⟨h2,n2⟩:=Cor.bx h1 (b:={ b with p:=false }) e m2.out g2;have N2:=N1.trans n2;clear hr N1 n2 h1 m2 g2;obtain ⟨t1,ht1⟩:∃ z:St,s.setB { b with p:=false }=z:=⟨_,rfl⟩;rw [ht1] at h2;have e2:t1.bx b.id=some { b with p:=false }:=by rw [←ht1];exact (setB_at s { b with p:=false })
 have eg2:t1.fu.a b.fn=some g:=by rw [←ht1];exact eg
 have Ht1:=Lib.hid ht1;clear ht1;have q5:=h2.g10 eg2;have q6:=h2.b0 e2
 go_still_tail 8,(by kernel_rfl)
 change wpList _ _ _ _ _ w2.drew;have h3:=h2.drew;have N3:=N2.drew;clear q5 q6;generalize w2.drew=w3 at h3 N3 ⊢;clear h2 N2;refine wpList_mp_del rfl (.tmp 20) (.tmp 24) 57 3 rfl 45 Tryz.underlying3 Tryz.underlying57 _ _ _ rfl ((h3.ob (.fp b.fn)) _ eg2).2 b.id rfl wf.2.1 _ rfl ?_;intro w4 m4 g4;obtain ⟨h4,n4⟩:=Cor.fp h3 eg2 (MpT.del m4) g4;have N4:=N3.trans n4;clear N3 n4 h3 m4 g4;obtain ⟨g2,hg2⟩:∃ z:Fu,{ g with pi:=g.pi.del b.id }=z:=⟨_,rfl⟩;rw [hg2] at h4;have hn2:g2.lo=g.lo:=by rw [←hg2]
 have HN2:=Lib.hid hn2;clear hn2;obtain ⟨t2,ht2⟩:∃ z:St,t1.setG b.fn g2=z:=⟨_,rfl⟩;rw [ht2] at h4;have e3:t2.bx b.id=some { b with p:=false }:=by rw [←ht2];exact e2
 have eg3:t2.fu.a b.fn=some g2:=by rw [←ht2];exact setG_at _ _ _
 have Ht2:=Lib.hid ht2;clear ht2;have HG2:=Lib.hid hg2;clear hg2;go_wp2_with fail
 have q7:=h4.g11 eg3;have q8:=h4.b0 e3
 go_still_tail 9,(by kernel_rfl)
 change wpList _ _ _ _ _ w4.drew;have h5:=h4.drew;have N5:=N4.drew;clear q7 q8;generalize w4.drew=w5 at h5 N5 ⊢;clear h4 N4;refine wpList_mp_set rfl (.tmp 28) (.tmp 32) (.tmp 33) 57 rfl 3 45 Tryz.underlying3 Tryz.underlying57 _ _ _ rfl ((h5.ob (.fl b.fn)) _ eg3).2 (by rw [HN2.out];have:=H.out;omega) b.id rfl wf.2.1 (ptr (y.bx b.id)) rfl _ rfl ?_
 intro w6 m6 g6;obtain ⟨h6,n6⟩:=Cor.fl h5 eg3 (MpT.set (v:=()) m6) g6;have N6:=N5.trans n6;clear N5 n6 h5 m6 g6
 go_wp2
 have hfin:s.unpin b.id=t2.setG b.fn { g2 with lo:=g2.lo.set b.id () }:=by
  unfold St.unpin;rw [St.B_of e,St.G_of eg,←Ht2.out,←HG2.out,setG_setG,←Ht1.out]
 go_end0
 exact ⟨rfl,_,by rw [hfin];exact h6,N6⟩
theorem c_pin {w:World} {own:Nat→Option Tag} {y:Lay} {s:St} (h:Cor w own y s) (B:Bd s) {i:Int} {b:Bo} (e:s.bx i=some b) {p:Pl} (ep:s.pl.a b.ho=some p) {g:Fu} (eg:s.fu.a b.fn=some g):Calls Tryz.prog 149 #[ptr y.c,ptr (y.bx i)] w fun e w'=>e=.returned (.tuple #[])∧To w own y (s.pin i) w':=by
 have N0:=Nx.refl w own;have h0:=h;clear h;have wf:=B.wb e;obtain rfl:=(B.bx _ _ e).1;have hlen:6<(brow b).length:=by unfold brow;simp
 have hlim:=B.fu _ _ eg;have hml:(1073741824:Nat)<maxLen:=by decide
 have H:=Lib.hid hlim;clear hlim
 go_enter Tryz.func149,Tryz.ntmps149
 go_wp2_with fail
 refine (c_hold h0 B e ep).mono ?_;rintro e0 w1 ⟨rfl,o1,h1,n1⟩;have N1:=N0.trans n1;clear N0 n1 h0;obtain ⟨s1,hs1⟩:∃ z:St,s.hold b.id=z:=⟨_,rfl⟩;rw [hs1] at h1;have e1:s1.bx b.id=some b:=by rw [←hs1];exact e
 have eg1:s1.fu.a b.fn=some g:=by rw [←hs1];exact eg
 have Hs1:=Lib.hid hs1;clear hs1;go_wp2_with fail
 have q0:=h1.c4;have q1:=h1.b1 e1;have q2:=fun y=>(h1.drewN y).lf eg1 wf.2.2.2;have q3:=h1.drew.lf eg1 wf.2.2.2;have q4:=h1.lf eg1 wf.2.2.2
 go_still_tail 9,(by kernel_rfl)
 change wpList _ _ _ _ _ w1.drew;have h2:=h1.drew;have N2:=N1.drew;clear q0 q1 q2 q3 q4;generalize w1.drew=w2 at h2 N2 ⊢;clear h1 N1;have hr:w2.heap[y.bx b.id]?=some (.cells (brow b).toArray 43 (0,0)):=((h2.ob (.bx b.id)) _ e1).2;go_wp2_with (with_reducible refine wpList_store_boolin rfl 4 (.tmp 19) (.const (.bool true)) rfl (by kernel_rfl) (y.bx b.id) 6 rfl true rfl _ _ hr hlen ?_;intro w3 m3 g3)
 obtain ⟨h3,n3⟩:=Cor.bx h2 (b:={ b with p:=true }) e1 m3.out g3;have N3:=N2.trans n3;clear hr N2 n3 h2 m3 g3;obtain ⟨t1,ht1⟩:∃ z:St,s1.setB { b with p:=true }=z:=⟨_,rfl⟩;rw [ht1] at h3;have e2:t1.bx b.id=some { b with p:=true }:=by rw [←ht1];exact (setB_at s1 { b with p:=true })
 have eg2:t1.fu.a b.fn=some g:=by rw [←ht1];exact eg1
 have Ht1:=Lib.hid ht1;clear ht1;have q5:=h3.g11 eg2;have q6:=h3.b0 e2
 go_still_tail 8,(by kernel_rfl)
 change wpList _ _ _ _ _ w3.drew;have h4:=h3.drew;have N4:=N3.drew;clear q5 q6;generalize w3.drew=w4 at h4 N4 ⊢;clear h3 N3;refine wpList_mp_del rfl (.tmp 23) (.tmp 27) 57 3 rfl 45 Tryz.underlying3 Tryz.underlying57 _ _ _ rfl ((h4.ob (.fl b.fn)) _ eg2).2 b.id rfl wf.2.1 _ rfl ?_;intro w5 m5 g5;obtain ⟨h5,n5⟩:=Cor.fl h4 eg2 (MpT.del m5) g5;have N5:=N4.trans n5;clear N4 n5 h4 m5 g5;obtain ⟨g2,hg2⟩:∃ z:Fu,{ g with lo:=g.lo.del b.id }=z:=⟨_,rfl⟩;rw [hg2] at h5;have hn2:g2.pi=g.pi:=by rw [←hg2]
 have HN2:=Lib.hid hn2;clear hn2;obtain ⟨t2,ht2⟩:∃ z:St,t1.setG b.fn g2=z:=⟨_,rfl⟩;rw [ht2] at h5;have e3:t2.bx b.id=some { b with p:=true }:=by rw [←ht2];exact e2
 have eg3:t2.fu.a b.fn=some g2:=by rw [←ht2];exact setG_at _ _ _
 have Ht2:=Lib.hid ht2;clear ht2;have HG2:=Lib.hid hg2;clear hg2;go_wp2_with fail
 have q7:=h5.g10 eg3;have q8:=h5.b0 e3
 go_still_tail 9,(by kernel_rfl)
 change wpList _ _ _ _ _ w5.drew;have h6:=h5.drew;have N6:=N5.drew;clear q7 q8;generalize w5.drew=w6 at h6 N6 ⊢;clear h5 N5;refine wpList_mp_set rfl (.tmp 31) (.tmp 35) (.tmp 36) 57 rfl 3 45 Tryz.underlying3 Tryz.underlying57 _ _ _ rfl ((h6.ob (.fp b.fn)) _ eg3).2 (by rw [HN2.out];have:=H.out;omega) b.id rfl wf.2.1 (ptr (y.bx b.id)) rfl _ rfl ?_
 intro w7 m7 g7;obtain ⟨h7,n7⟩:=Cor.fp h6 eg3 (MpT.set (v:=()) m7) g7;have N7:=N6.trans n7;clear N6 n7 h6 m7 g7
 go_wp2
 have hfin:s.pin b.id=t2.setG b.fn { g2 with pi:=g2.pi.set b.id () }:=by
  unfold St.pin;rw [St.B_of e,St.G_of eg,←Ht2.out,←HG2.out,setG_setG,←Ht1.out,←Hs1.out]
 go_end0
 exact ⟨rfl,_,by rw [hfin];exact h7,N7⟩
structure Unused (s:St) (i:Int):Prop where
 bx:s.bx i=none
 mx:s.mx.a i=none
 bo:∀ h p,s.pl.a h=some p→p.bo.a i=none
 fu:∀ f g,s.fu.a f=some g→g.pi.a i=none∧g.lo.a i=none
def Lay.withB (y:Lay) (i:Int) (blk:Nat):Lay:={ y with bx:=fun j=>if j=i then blk else y.bx j }
theorem withB_at (y:Lay) (i:Int) (blk:Nat):(y.withB i blk).bx i=blk:=if_pos rfl
theorem withB_ne (y:Lay) {i j:Int} (blk:Nat) (h:j≠i):(y.withB i blk).bx j=y.bx j:=if_neg h
theorem MpT.lay {w:World} {b:Nat} {m:Tb Unit} {y:Lay} {i:Int} (blk:Nat) (h:MpT w b m (fun j _=>ptr (y.bx j))) (hi:m.a i=none):MpT w b m (fun j _=>ptr ((y.withB i blk).bx j)):=by
 have:(fun j=>(m.a j).map (fun _=>ptr ((y.withB i blk).bx j)))=(fun j=>(m.a j).map (fun _=>ptr (y.bx j))):=by
  funext j
  by_cases q:j=i
  ·subst q;rw [hi];rfl
  ·rw [withB_ne y blk q]
 unfold MpT at h ⊢;rw [this];exact h
theorem ob_withB {w:World} {own:Nat→Option Tag} {y:Lay} {s:St} {i:Int} (F:Unused s i) (blk:Nat) (t:Tag) (h:Ob w own y s t):Ob w own (y.withB i blk) s t:=by
 cases t with
 | mx=>exact ⟨h.1,h.2.lay blk F.mx⟩
 | fp f=>exact fun g hg=>⟨(h g hg).1,(h g hg).2.lay blk (F.fu f g hg).1⟩
 | fl f=>exact fun g hg=>⟨(h g hg).1,(h g hg).2.lay blk (F.fu f g hg).2⟩
 | pm x=>exact fun p hp=>⟨(h p hp).1,(h p hp).2.lay blk (F.bo x p hp)⟩
 | bx j =>
  intro b hb;have q:j≠i:=fun q=>by subst q;rw [F.bx] at hb;cases hb
  rw [withB_ne y blk q];exact h b hb
 | _=>exact h
theorem Cor.nb0 {w:World} {own:Nat→Option Tag} {y:Lay} {s:St} {i:Int} {blk:Nat} (h:Cor w own (y.withB i blk) s) {b:Bo} (e:s.bx i=some b):w.cell? ⟨blk,0,none⟩=some (.int .i64 b.id):=by
 have:=h.b0 e;rw [withB_at] at this;exact this
theorem MpT.setB {w':World} {b:Nat} {m:Tb Unit} {y:Lay} {i:Int} {blk:Nat} (hm:Mp Tryz.prog 3 w' b (updZ (fun x=>(m.a x).map (fun _=>ptr ((y.withB i blk).bx x))) i (some (ptr blk))) (if ((fun x=>(m.a x).map (fun _=>ptr ((y.withB i blk).bx x))) i).isSome then m.n else m.n+1)):MpT w' b (m.set i ()) (fun j _=>ptr ((y.withB i blk).bx j)) :=
 MpT.set (by rw [withB_at];exact hm)
def ownB (own:Nat→Option Tag) (n:Nat) (t:Tag):Nat→Option Tag:=fun j=>if j=n then some t else own j
theorem Cor.newB {w w1:World} {own:Nat→Option Tag} {y:Lay} {s:St} (h:Cor w own y s) {i:Int} (F:Unused s i) {b:Bo} (hi:b.id=i) (hb:Bx w1 w.heap.size b) (hw:Below w.heap.size w w1) :
  Cor w1 (ownB own w.heap.size (.bx i)) (y.withB i w.heap.size) (s.setB b)∧Nx w own w1 (ownB own w.heap.size (.bx i)):=by
 have h0:=h.fresh (Nat.le_refl w.heap.size);have hlt:=hb.lt
 have hold:∀ j t,own j=some t→ownB own w.heap.size (.bx i) j=some t:=fun j t q=>by
  unfold ownB;rw [if_neg (fun e=>by rw [e,h0] at q;cases q)];exact q
 have hnew:∀ j t,ownB own w.heap.size (.bx i) j=some t→j<w1.heap.size:=fun j t q=>by
  unfold ownB at q;split at q
  ·rename_i e;rw [e];exact hlt
  ·exact Nat.lt_of_lt_of_le (h.lt j t q) hw.size
 refine ⟨⟨hnew,fun t=>?_⟩,Only.of_below hw,fun j q=>?_⟩
 ·have hk:=(ob_withB F w.heap.size t (h.ob t)).kept (Only.of_below (S:=fun _=>False) hw) (fun _ _ q=>q) (hold · t) (hnew · t)
  by_cases e:t=.bx i
  ·subst e
   intro b' hb';have:(s.setB b).bx i=some b:=by rw [←hi];exact setB_at s b
   rw [this] at hb';cases hb';rw [withB_at];exact ⟨if_pos rfl,hb⟩
  ·exact ob_setB b t (by rw [hi];exact e) hk
 ·unfold ownB at q;split at q
  ·rename_i e;exact Or.inr (by omega)
  ·exact Or.inl q
theorem Cor.coreN {w w':World} {own:Nat→Option Tag} {y:Lay} {s:St} (h:Cor w own y s) {now last:Int} {v:Value} (hr:w.heap[y.c]?=some (.cells (crow y s.now s.last v).toArray 69 (0,0))) (hn:w'.heap[y.c]?=some (.cells (crow y now last v).toArray 69 (0,0))) (hg:w.grownBy w' (some y.c)) :
  Cor w' (grow own w w' .core) y { s with now:=now,last:=last }∧Nx w own w' (grow own w w' .core):=by
 obtain ⟨oc,v1,G,h1,h2,h3⟩:=h.ob .core
 have e:v1=v:=by
  rw [hr] at h1;have q:=congrArg (fun z=>(match z with | some (Obj.cells cs _ _)=>cs[15]? | _=>none)) h1
  simp [crow] at q;exact q.symm
 subst e;exact h.core y.an v1 G (Only.own oc hg) hn (h2.kept (Only.grown hg (Or.inl rfl) (S:=fun j=>j=y.c)) (fun g q=>(h3 g q).2)) (fun g q=>⟨Or.inl (h3 g q).1,(h3 g q).2⟩)
theorem Cor.crow {w:World} {own:Nat→Option Tag} {y:Lay} {s:St} (h:Cor w own y s):∃ v,w.heap[y.c]?=some (.cells (crow y s.now s.last v).toArray 69 (0,0)):=by
 obtain ⟨_,v,_,h1,_⟩:=h.ob .core;exact ⟨v,h1⟩
theorem crow_len (y:Lay) (now last:Int) (v:Value):(C.crow y now last v).length=16:=rfl
theorem c_boot {w:World} {own:Nat→Option Tag} {y:Lay} {s:St} (h:Cor w own y s) (B:Bd s) {f x:Int} {g:Fu} {p:Pl} (eg:s.fu.a f=some g) (ep:s.pl.a x=some p) (F:Unused s (s.last+1)):Calls Tryz.prog 72 #[ptr y.c,ptr (y.fb f),.int .i64 x] w fun e w'=>∃ blk,e=.returned (ptr blk)∧To w own (y.withB (s.last+1) blk) (s.boot f x) w':=by
 have N0:=Nx.refl w own;have h0:=h;clear h;have wg:=B.wg eg;have wp:=B.wp ep;have hbl:=B.last;have hwi:(KL (s.last+1)).wf=true:=wfK (by omega) (by omega)
 have hbn:=Lib.hid (And.intro B.mxn (And.intro (B.pl _ _ ep).2.2.2.2.2.2 (B.fu _ _ eg).2.2.2.2.2.2.2.2.2.2.2.2.2.2.2.2.2));have hml:(1073741824:Nat)<maxLen:=by decide
 have hwr:IntKind.i64.wrap (s.last+1)=s.last+1:=wrap_small (by omega) (by omega)
 have hout:=B.out;have HBL:=Lib.hid hbl;have HML:=Lib.hid hml;clear hbl hml;have q0:=h0.c5;have q1:=h0.g2 eg
 go_enter Tryz.func72,Tryz.ntmps72
 go_wp2_with fail
 go_still_tail 9,(by kernel_rfl)
 change wpList _ _ _ _ _ w.drew;have h1:=h0.drew;have N1:=N0.drew;clear q0 q1;generalize w.drew=w1 at h1 N1 ⊢;clear h0 N0;go_wp2_with fail
 refine (k_htake h1 x g.mem).mono ?_;rintro e1 w2 ⟨rfl,o2,h2,n2⟩;have N2:=N1.trans n2;clear N1 n2 h1;obtain ⟨s1,hs1⟩:∃ z:St,({ s with H:=tkH s.H x g.mem }:St)=z:=⟨_,rfl⟩;rw [hs1] at h2;have eg1:s1.fu.a f=some g:=by rw [←hs1];exact eg
 have ep1:s1.pl.a x=some p:=by rw [←hs1];exact ep
 have hl1:s1.last=s.last:=by rw [←hs1]
 have hn1:s1.now=s.now:=by rw [←hs1]
 have F1:Unused s1 (s.last+1):=by rw [←hs1];exact ⟨F.bx,F.mx,F.bo,F.fu⟩
 have hm1:s1.mx=s.mx:=by rw [←hs1]
 have ho1:s1.out=s.out:=by rw [←hs1]
 have Hs1:=Lib.hid hs1;clear hs1;have HL1:=Lib.hid hl1;have HN1:=Lib.hid hn1;have HM1:=Lib.hid hm1;have HO1:=Lib.hid ho1;clear hl1 hn1 hm1 ho1;obtain ⟨v,hr⟩:=h2.crow;have hcl:1<(C.crow y s1.now s1.last v).length:=by rw [crow_len];decide
 have q2:=(show w2.cell? ⟨y.c,1,none⟩=some (.int .i64 s.last) from by rw [←HL1.out];exact h2.c1)
 go_wp2_with (with_reducible refine wpList_store_in rfl 3 (.tmp 24) (.tmp 22) rfl (by kernel_rfl) y.c 1 rfl .i64 (s.last+1) rfl _ _ hr hcl ?_;intro w3 m3 g3)
 obtain ⟨h3,n3⟩:=Cor.coreN h2 (now:=s1.now) (last:=s.last+1) hr m3.out g3;have N3:=N2.trans n3;clear q2;clear hr hcl m3 g3 h2 N2 n3 hwr;obtain ⟨s2,hs2⟩:∃ z:St,({ s1 with now:=s1.now,last:=s.last+1 }:St)=z:=⟨_,rfl⟩;rw [hs2] at h3;have eg2:s2.fu.a f=some g:=by rw [←hs2];exact eg1
 have ep2:s2.pl.a x=some p:=by rw [←hs2];exact ep1
 have F2:Unused s2 (s.last+1):=by rw [←hs2];exact ⟨F1.bx,F1.mx,F1.bo,F1.fu⟩
 have hl2:s2.last=s.last+1:=by rw [←hs2]
 have hm2:s2.mx=s.mx:=by rw [←hs2];exact HM1.out
 have ho2:s2.out=s.out:=by rw [←hs2];exact HO1.out
 have hn2:s2.now=s.now:=by rw [←hs2];exact HN1.out
 have Hs2:=Lib.hid hs2;clear hs2;have HL2:=Lib.hid hl2;have HM2:=Lib.hid hm2;have HO2:=Lib.hid ho2;have HN2:=Lib.hid hn2;clear hl2 hm2 ho2 hn2 eg1 ep1 F1;have q3:=(show w3.cell? ⟨y.c,1,none⟩=some (.int .i64 (s.last+1)) from by rw [←HL2.out];exact h3.c1)
 have q4:=(show w3.cell? ⟨y.c,0,none⟩=some (.int .i64 s.now) from by rw [←HN2.out];exact h3.c0)
 have q5:=h3.g0 eg2;have q6:=h3.g2 eg2
 go_still_tail 17,(by kernel_rfl)
 change wpList _ _ _ _ _ w3.drew;have h4:=h3.drew;have N4:=N3.drew;clear q3 q4 q5 q6;generalize w3.drew=w4 at h4 N4 ⊢;clear h3 N3;go_wp2_with fail
 refine (bx_new (s.last+1) f x g.mem s.now w4).mono ?_;rintro e4 w5 ⟨rfl,hb,hbw⟩;obtain ⟨h5,n5⟩:=Cor.newB h4 F2 (b:=⟨s.last+1,f,x,g.mem,.boot,false,s.now⟩) rfl hb hbw;have N5:=N4.trans n5;clear h4 N4 n5 hb hbw;obtain ⟨blk,hblk⟩:∃ blk,w4.heap.size=blk:=⟨_,rfl⟩;rw [hblk] at h5 N5;rw [hblk];clear hblk;obtain ⟨s3,hs3⟩:∃ z:St,s2.setB (⟨s.last+1,f,x,g.mem,.boot,false,s.now⟩:Bo)=z:=⟨_,rfl⟩;rw [hs3] at h5;have e3:s3.bx (s.last+1)=some (⟨s.last+1,f,x,g.mem,.boot,false,s.now⟩:Bo):=by rw [←hs3];exact (setB_at s2 (⟨s.last+1,f,x,g.mem,.boot,false,s.now⟩:Bo))
 have eg3:s3.fu.a f=some g:=by rw [←hs3];exact eg2
 have ep3:s3.pl.a x=some p:=by rw [←hs3];exact ep2
 have hm3:s3.mx=s.mx:=by rw [←hs3];exact HM2.out
 have ho3:s3.out=s.out:=by rw [←hs3];exact HO2.out
 have Hs3:=Lib.hid hs3;clear hs3;have HM3:=Lib.hid hm3;have HO3:=Lib.hid ho3;clear hm3 ho3 eg2 ep2 F2;go_wp2_with fail
 have q7:=(show w5.cell? ⟨y.c,7,none⟩=some (.map (some y.mx)) from h5.c7)
 have q8:=h5.nb0 e3
 go_still_tail 9,(by kernel_rfl)
 change wpList _ _ _ _ _ w5.drew;have h6:=h5.drew;have N6:=N5.drew;clear q7 q8;generalize w5.drew=w6 at h6 N6 ⊢;clear h5 N5;refine wpList_mp_set rfl (.tmp 46) (.tmp 50) (.tmp 51) 57 rfl 3 45 Tryz.underlying3 Tryz.underlying57 _ _ _ rfl (h6.ob .mx).2 (by rw [HM3.out];have:=hbn.out.1;have:=HML.out;omega) (s.last+1) rfl hwi (ptr blk) rfl _ rfl ?_
 intro w7 m7 g7;obtain ⟨h7,n7⟩:=h6.mx (MpT.setB m7) g7;have N7:=N6.trans n7;clear N6 n7 h6 m7 g7;obtain ⟨s4,hs4⟩:∃ z:St,({ s3 with mx:=s3.mx.set (s.last+1) () }:St)=z:=⟨_,rfl⟩;rw [hs4] at h7;have e4:s4.bx (s.last+1)=some (⟨s.last+1,f,x,g.mem,.boot,false,s.now⟩:Bo):=by rw [←hs4];exact e3
 have eg4:s4.fu.a f=some g:=by rw [←hs4];exact eg3
 have ep4:s4.pl.a x=some p:=by rw [←hs4];exact ep3
 have ho4:s4.out=s.out:=by rw [←hs4];exact HO3.out
 have Hs4:=Lib.hid hs4;clear hs4;have HO4:=Lib.hid ho4;clear ho4 eg3 ep3 e3;go_wp2_with fail
 have q9:=(show w7.cell? ⟨y.c,6,none⟩=some (.map (some y.mp)) from h7.c6)
 have q10:=h7.nb0 e4;have q11:=(show w7.cell? ⟨y.pb x,0,none⟩=some (.map (some (y.pm x))) from h7.p0 ep4)
 have q12:=(fun j=>show (Instr.lookup 56 (.map (some y.mp)) (.int .i64 x) false).run Tryz.prog (w7.drewN j)=.ok (ptr (y.pb x)) (w7.drewN j) from (h7.drewN j).lp ep4 wp)
 have q13:=(show (Instr.lookup 56 (.map (some y.mp)) (.int .i64 x) false).run Tryz.prog w7.drew=.ok (ptr (y.pb x)) w7.drew from h7.drew.lp ep4 wp)
 have q14:=(show (Instr.lookup 56 (.map (some y.mp)) (.int .i64 x) false).run Tryz.prog w7=.ok (ptr (y.pb x)) w7 from h7.lp ep4 wp)
 go_still_tail 14,(by kernel_rfl)
 change wpList _ _ _ _ _ w7.drew;have h8:=h7.drew;have N8:=N7.drew;clear q9 q10 q11 q12 q13 q14;generalize w7.drew=w8 at h8 N8 ⊢;clear h7 N7;refine wpList_mp_set rfl (.tmp 60) (.tmp 64) (.tmp 65) 57 rfl 3 45 Tryz.underlying3 Tryz.underlying57 _ _ _ rfl ((h8.ob (.pm x)) _ ep4).2 (by have:=hbn.out.2.1;have:=HML.out;omega) (s.last+1) rfl hwi (ptr blk) rfl _ rfl ?_
 intro w9 m9 g9;obtain ⟨h9,n9⟩:=Cor.pm h8 ep4 (MpT.setB m9) g9;have N9:=N8.trans n9;clear N8 n9 h8 m9 g9;obtain ⟨s5,hs5⟩:∃ z:St,s4.setP x { p with bo:=p.bo.set (s.last+1) () }=z:=⟨_,rfl⟩;rw [hs5] at h9;have e5:s5.bx (s.last+1)=some (⟨s.last+1,f,x,g.mem,.boot,false,s.now⟩:Bo):=by rw [←hs5];exact e4
 have eg5:s5.fu.a f=some g:=by rw [←hs5];exact eg4
 have ho5:s5.out=s.out:=by rw [←hs5];exact HO4.out
 have Hs5:=Lib.hid hs5;clear hs5;have HO5:=Lib.hid ho5;clear ho5 eg4 e4;go_wp2_with fail
 have q15:=(show w9.cell? ⟨y.fb f,11,none⟩=some (.map (some (y.fl f))) from h9.g11 eg5)
 have q16:=h9.nb0 e5
 go_still_tail 9,(by kernel_rfl)
 change wpList _ _ _ _ _ w9.drew;have h10:=h9.drew;have N10:=N9.drew;clear q15 q16;generalize w9.drew=w10 at h10 N10 ⊢;clear h9 N9;refine wpList_mp_set rfl (.tmp 69) (.tmp 73) (.tmp 74) 57 rfl 3 45 Tryz.underlying3 Tryz.underlying57 _ _ _ rfl ((h10.ob (.fl f)) _ eg5).2 (by have:=hbn.out.2.2;have:=HML.out;omega) (s.last+1) rfl hwi (ptr blk) rfl _ rfl ?_
 intro w11 m11 g11;obtain ⟨h11,n11⟩:=Cor.fl h10 eg5 (MpT.setB m11) g11;have N11:=N10.trans n11;clear N10 n11 h10 m11 g11;obtain ⟨s6,hs6⟩:∃ z:St,s5.setG f { g with lo:=g.lo.set (s.last+1) () }=z:=⟨_,rfl⟩;rw [hs6] at h11;have e6:s6.bx (s.last+1)=some (⟨s.last+1,f,x,g.mem,.boot,false,s.now⟩:Bo):=by rw [←hs6];exact e5
 have ho6:s6.out=s.out:=by rw [←hs6];exact HO5.out
 have Hs6:=Lib.hid hs6;clear hs6;go_wp2_with fail
 refine ((show Calls Tryz.prog 117 #[ptr y.c,.bool true,ptr blk] _ _ from by have q:=c_give h11 (by rw [ho6];exact hout) true e6;rw [withB_at] at q;exact q)).mono ?_
 rintro e11 w12 ⟨rfl,o12,h12,n12⟩;have N12:=N11.trans n12;clear N11 n12 h11
 go_wp2
 have hfin:s.boot f x=s6.give true (⟨s.last+1,f,x,g.mem,.boot,false,s.now⟩:Bo):=by
  rw [←Hs6.out,←Hs5.out,←Hs4.out,←Hs3.out,←Hs2.out,←Hs1.out];simp only [St.boot,St.G_of eg,St.P_of ep];rfl
 go_ret
 exact ⟨blk,rfl,_,by rw [hfin];exact h12,N12⟩
end Go.Proofs.YthdengocipfgiaaGreat.W.C
namespace Go.Proofs.YthdengocipfgiaaGreat.W.C
open Go.RowKit Go.Maps Go.ChangeMaps Go.MapKept Go.Proofs.YthdengocipfgiaaGreat.W
theorem mp_run_len {P:Program} {w:World} {b:Nat} {M:Int→Option Value} {c:Nat} {k e t:TypeId} (h:Mp P k w b M c) (ht:P.underlying t=some (.map k e)) (ty:TypeId):(Builtin.len_ #[t] ty #[.map (some b)]).run P w=.ok (.int .i64 (c:Int)) w:=by
 obtain ⟨D,h1,h2,_⟩:=h;rw [h1.len ht ty,h2]
theorem Cor.gpn {w:World} {own:Nat→Option Tag} {y:Lay} {s:St} (h:Cor w own y s) {f:Int} {g:Fu} (e:s.fu.a f=some g) (ty:TypeId):(Builtin.len_ #[57] ty #[.map (some (y.fp f))]).run Tryz.prog w=.ok (.int .i64 (g.pi.n:Int)) w:=mp_run_len ((h.ob (.fp f)) g e).2 Tryz.underlying57 ty
theorem Cor.gln {w:World} {own:Nat→Option Tag} {y:Lay} {s:St} (h:Cor w own y s) {f:Int} {g:Fu} (e:s.fu.a f=some g) (ty:TypeId):(Builtin.len_ #[57] ty #[.map (some (y.fl f))]).run Tryz.prog w=.ok (.int .i64 (g.lo.n:Int)) w:=mp_run_len ((h.ob (.fl f)) g e).2 Tryz.underlying57 ty
theorem c_window {w:World} {own:Nat→Option Tag} {y:Lay} {s:St} (h:Cor w own y s) {f:Int} {g:Fu} (eg:s.fu.a f=some g):Calls Tryz.prog 131 #[ptr (y.fb f)] w fun e w'=>e=.returned (Win g.win.1 g.win.2.1 g.win.2.2)∧To w own y s w':=by
 have N0:=Nx.refl w own;have h0:=h
 go_enter Tryz.func131,Tryz.ntmps131
 go_wp2_with fail
 have h1:=h0.alloc (.cells #[.int .i64 0,.int .i64 0,.int .i64 0] 200);have HW:=newW w;generalize w.alloc (.cells #[.int .i64 0,.int .i64 0,.int .i64 0] 200)=w1 at h1 HW ⊢;have HB:=Lib.hid HW;clear HW N0 h0;have q0:=h1.g8 eg;have q1:=h1.g9 eg
 go_still_tail 8,(by kernel_rfl)
 change wpList _ _ _ _ _ w1.drew;have h2:=h1.drew;have HB2:=Lib.hid (HB.out.drewN 1);clear q0 q1;change Hid (NewW w w1.drew) at HB2;generalize w1.drew=w2 at h2 HB2 ⊢;clear h1 HB;go_wp2_with fail
 refine (of_any _ _ _ _ _ _ (h2.ob (.fh f) g eg).2 (h2.ob (.fr f) g eg).2).mono ?_;rintro e w3 ⟨rfl,hb3⟩;have HB3:=Lib.hid (HB2.out.below hb3);rw [win_eq];obtain ⟨h',p',q',hwin⟩:∃ a b c,(a,b,c)=winN g.F g.o g.ys:=⟨_,_,_,rfl⟩;have HGW:=Lib.hid (show g.win=(h',p',q') from hwin.symm)
 rw [←hwin];dsimp only;clear hwin h2;have HC3:=Lib.hid HB3.out.1;go_wp2_with (with_reducible refine wpList_store_win rfl (.tmp 2) (.tmp 11) rfl w.heap.size h' p' q' rfl rfl 0 0 0 HC3 ?_;intro w4 HG4 hg4)
 (try simp only [Exit.inBlock,Exit.then]);refine bodyPost_ret (ret_win (fn:=Tryz.f131) rfl rfl HG4) rfl ⟨by rw [HGW.out],To.below h (HB3.out.done hg4)⟩
theorem c_has {w:World} {own:Nat→Option Tag} {y:Lay} {s:St} (h:Cor w own y s) (B:Bd s) {f:Int} {g:Fu} (eg:s.fu.a f=some g):Calls Tryz.prog 137 #[ptr (y.fb f)] w fun e w'=>e=.returned (.bool (decide (0<(g.pi.n:Int)+(g.lo.n:Int))))∧To w own y s w':=by
 have N0:=Nx.refl w own;have h0:=h;clear h;have bg:=(B.fu _ _ eg).2.2.2.2.2.2.2.2.2.2.2.2.2.2.2.2;have hwr:IntKind.i64.wrap ((g.pi.n:Int)+(g.lo.n:Int))=(g.pi.n:Int)+(g.lo.n:Int):=wrap_small (by omega) (by omega)
 clear bg;have q0:=h0.g10 eg;have q1:=h0.g11 eg;have q2:=fun j=>(h0.drewN j).gpn eg;have q3:=fun j=>(h0.drewN j).gln eg;have q4:=h0.drew.gpn eg;have q5:=h0.drew.gln eg;have q6:=h0.gpn eg;have q7:=h0.gln eg
 skip
 go_enter Tryz.func137,Tryz.ntmps137
 go_wp2_with fail
 go_still_tail 12,(by kernel_rfl)
 change wpList _ _ _ _ _ w.drew;have h1:=h0.drew;have N1:=N0.drew;clear q0 q1 q2 q3 q4 q5 q6 q7;generalize w.drew=w1 at h1 N1 ⊢;clear h0 N0
 go_wp2
 go_ret
 exact ⟨rfl,_,h1,N1⟩
theorem c_called {w:World} {own:Nat→Option Tag} {y:Lay} {s:St} (h:Cor w own y s) (B:Bd s) {f:Int} {g:Fu} (eg:s.fu.a f=some g) (idle:Bool):Calls Tryz.prog 64 #[ptr (y.fb f),.int .i64 s.now,.bool idle] w fun e w'=>e=.returned (.tuple #[])∧To w own y (s.setG f (calledG g s.now idle)) w':=by
 have N0:=Nx.refl w own;have h0:=h;clear h;have bg:=B.fu _ _ eg;have hwd:IntKind.i64.wrap (s.now-g.ended)=s.now-g.ended:=wrap_small (by have:=B.now;omega) (by have:=B.now;omega)
 have hwo:IntKind.i64.wrap (g.often+1)=g.often+1:=wrap_small (by omega) (by omega)
 obtain ⟨m,hm⟩:∃ m,m=min (g.often+1) 1000:=⟨_,rfl⟩;have HM:=Lib.hid hm;have HB:=Lib.hid bg;clear hm bg
 cases idle with
 | false =>
  have q0:=h0.g5 eg
  go_enter Tryz.func64,Tryz.ntmps64
  have hr:w.heap[y.fb f]?=some (.cells (frow y f g).toArray 146 (0,0)):=((h0.ob (.fb f)) _ eg).2;have hfl:5<(frow y f g).length:=by simp [frow]
  go_wp2_with (first | (with_reducible refine wpList_min_to rfl (.tmp 41) (.const (.int .i64 1000)) 3 3 rfl .i64 .i64 (g.often+1) 1000 m rfl rfl HM.out ?_) | (with_reducible refine wpList_store_in rfl 3 (.tmp 44) (.tmp 42) rfl (by kernel_rfl) (y.fb f) 5 rfl .i64 m rfl _ _ hr hfl ?_;intro w1 m1 g1))
  obtain ⟨h1,n1⟩:=Cor.fb h0 eg { (g) with often:=m } rfl rfl rfl rfl rfl m1.out g1;have N1:=N0.trans n1
  go_end0
  exact ⟨rfl,_,by rw [show calledG g s.now false={ g with often:=m } by unfold calledG;rw [if_neg (by simp),HM.out]];exact h1,N1⟩
 | true =>
  by_cases he:g.ended=-1
  ·have d:(g.ended == -1)=true:=by rw [he];rfl
   have HE:=Lib.hid he;have q1:=(show w.cell? ⟨y.fb f,6,none⟩=some (.int .i64 (-1)) from by rw [←he];exact h0.g6 eg)
   have q2:=h0.g5 eg;clear d he
   go_enter Tryz.func64,Tryz.ntmps64
   have hr:w.heap[y.fb f]?=some (.cells (frow y f g).toArray 146 (0,0)):=((h0.ob (.fb f)) _ eg).2;have hfl:5<(frow y f g).length:=by simp [frow]
   go_wp2_with (first | (with_reducible refine wpList_min_to rfl (.tmp 41) (.const (.int .i64 1000)) 3 3 rfl .i64 .i64 (g.often+1) 1000 m rfl rfl HM.out ?_) | (with_reducible refine wpList_store_in rfl 3 (.tmp 44) (.tmp 42) rfl (by kernel_rfl) (y.fb f) 5 rfl .i64 m rfl _ _ hr hfl ?_;intro w1 m1 g1))
   obtain ⟨h1,n1⟩:=Cor.fb h0 eg { (g) with often:=m } rfl rfl rfl rfl rfl m1.out g1;have N1:=N0.trans n1
   go_end0
   exact ⟨rfl,_,by rw [show calledG g s.now true={ g with often:=m } by unfold calledG;rw [if_neg (by simp [HE.out]),HM.out]];exact h1,N1⟩
  ·have d:(g.ended == -1)=false:=by simpa using he
   have HE:=Lib.hid he;clear he;have q3:=h0.g6 eg
   go_enter Tryz.func64,Tryz.ntmps64
   go_wp2_with fail
   have q4:=h0.g8 eg
   go_still_tail 10,(by kernel_rfl)
   change wpList _ _ _ _ _ w.drew;have h1:=h0.drew;have N1:=N0.drew;clear q3 q4;generalize w.drew=w1 at h1 N1 ⊢;clear h0 N0;go_wp2_with fail
   with_reducible refine (k_hcount h1 eg (s.now-g.ended)).mono ?_
   rintro e1 w2 ⟨rfl,o2,h2,n2⟩;have N2:=N1.trans n2;clear N1 n2 h1;obtain ⟨g1,hg1⟩:∃ z:Fu,{ g with F:=addF g.F g.o (s.now-g.ended),o:=addO g.F g.o (s.now-g.ended) }=z:=⟨_,rfl⟩;have he1:g1.ended=g.ended:=by rw [←hg1]
   rw [hg1] at h2;have eg1:=setG_at s f g1;go_wp2_with fail
   have q5:=h2.g9 eg1;have q6:=(show w2.cell? ⟨y.fb f,6,none⟩=some (.int .i64 g.ended) from by rw [←he1];exact h2.g6 eg1)
   have HE1:=Lib.hid he1;clear he1
   go_still_tail 10,(by kernel_rfl)
   change wpList _ _ _ _ _ w2.drew;have h3:=h2.drew;have N3:=N2.drew;clear q5 q6;generalize w2.drew=w3 at h3 N3 ⊢;clear h2 N2;go_wp2_with fail
   with_reducible refine (k_rpush h3 eg1 (s.now-g.ended)).mono ?_
   rintro e3 w4 ⟨rfl,o4,h4,n4⟩;have N4:=N3.trans n4;clear N3 n4 h3;rw [setG_setG] at h4;obtain ⟨g2,hg2⟩:∃ z:Fu,{ g1 with ys:=last8 (g1.ys ++ [s.now-g.ended]) }=z:=⟨_,rfl⟩;have ho2:g2.often=g.often:=by rw [←hg2,←hg1]
   rw [hg2] at h4;have eg2:=setG_at s f g2;have HG1:=Lib.hid hg1;have HG2:=Lib.hid hg2;clear hg1 hg2;have q7:=(show w4.cell? ⟨y.fb f,5,none⟩=some (.int .i64 g.often) from by rw [←ho2];exact h4.g5 eg2)
   clear ho2;have hr:w4.heap[y.fb f]?=some (.cells (frow y f g2).toArray 146 (0,0)):=((h4.ob (.fb f)) _ eg2).2;have hfl:5<(frow y f g2).length:=by simp [frow]
   go_wp2_with (first | (with_reducible refine wpList_min_to rfl (.tmp 41) (.const (.int .i64 1000)) 3 3 rfl .i64 .i64 (g.often+1) 1000 m rfl rfl HM.out ?_) | (with_reducible refine wpList_store_in rfl 3 (.tmp 44) (.tmp 42) rfl (by kernel_rfl) (y.fb f) 5 rfl .i64 m rfl _ _ hr hfl ?_;intro w5 m5 g5))
   obtain ⟨h5,n5⟩:=Cor.fb h4 eg2 { (g2) with often:=m } rfl rfl rfl rfl rfl m5.out g5;have N5:=N4.trans n5;rw [setG_setG] at h5
   go_end0
   exact ⟨rfl,_,by rw [show calledG g s.now true={ g2 with often:=m } by unfold calledG;rw [if_pos ⟨rfl,HE.out⟩,←HG2.out,←HG1.out,HM.out]];exact h5,N5⟩
end Go.Proofs.YthdengocipfgiaaGreat.W.C
namespace Go.Proofs.YthdengocipfgiaaGreat.W.C
open Go.RowKit Go.Proofs.YthdengocipfgiaaGreat.W
theorem Bd.led {s:St} (B:Bd s) (A:Int→Option Nat) (F:Int→Option Fn):Bd { s with A:=A,F:=F }:=⟨B.now,B.last,B.tn,B.mxn,B.ahn,B.tkn,B.fuN,B.pln,B.out,B.bx,B.fu,B.pl⟩
theorem Bd.hos {s:St} (B:Bd s) (H:Int→Option Ht):Bd { s with H:=H }:=⟨B.now,B.last,B.tn,B.mxn,B.ahn,B.tkn,B.fuN,B.pln,B.out,B.bx,B.fu,B.pl⟩
theorem Bd.delT {s:St} (B:Bd s) (k:HT.K):Bd (s.delT k):=⟨B.now,B.last,by have:=B.tn;unfold St.delT;dsimp only;split <;> omega,B.mxn,B.ahn,B.tkn,B.fuN,B.pln,B.out,B.bx,B.fu,B.pl⟩
theorem Bd.setG {s:St} (B:Bd s) {f:Int} {g0:Fu} (e:s.fu.a f=some g0) (g:Fu) (hg:0≤f∧f<64∧0≤g.acc∧g.acc<16∧1≤g.mem∧g.mem≤4096∧0≤g.cost∧g.cost≤1000∧0≤g.keep∧g.keep≤1000∧0≤g.often∧g.often≤1000∧-1≤g.ended∧g.ended≤s.now∧0≤g.unt∧g.unt≤4398046511104∧g.pi.n<1073741823∧g.lo.n<1073741823):Bd (s.setG f g) :=
 ⟨B.now,B.last,B.tn,B.mxn,B.ahn,B.tkn,by have:=B.fuN;unfold St.setG Tb.set;dsimp only;rw [e];simpa using this,B.pln,B.out,B.bx,fun x v hv=>by
  by_cases q:x=f
  ·subst q;rw [setG_at] at hv;cases hv;exact hg
  ·rw [show (s.setG f g).fu.a x=s.fu.a x from Tb.set_ne _ _ q] at hv;exact B.fu x v hv,B.pl⟩
theorem Bd.setP {s:St} (B:Bd s) {h:Int} {p0:Pl} (e:s.pl.a h=some p0) (p:Pl) (hp:0≤h∧h<32∧p.cn<1073741823∧p.cl≤1125899906842624∧-4398046511104≤p.sp∧p.sp≤4398046511104∧p.bo.n<1073741823):Bd (s.setP h p) :=
 ⟨B.now,B.last,B.tn,B.mxn,B.ahn,B.tkn,B.fuN,by have:=B.pln;unfold St.setP Tb.set;dsimp only;rw [e];simpa using this,B.out,B.bx,B.fu,fun x v hv=>by
  by_cases q:x=h
  ·subst q;rw [setP_at] at hv;cases hv;exact hp
  ·rw [show (s.setP h p).pl.a x=s.pl.a x from Tb.set_ne _ _ q] at hv;exact B.pl x v hv⟩
theorem Bd.setB {s:St} (B:Bd s) (b:Bo) (hb:b.id=b.id∧1≤b.id∧b.id≤s.last∧0≤b.fn∧b.fn<64∧0≤b.ho∧b.ho<32∧1≤b.me∧b.me≤4096∧0≤b.t∧b.t≤1099511627776):Bd (s.setB b) :=
 ⟨B.now,B.last,B.tn,B.mxn,B.ahn,B.tkn,B.fuN,B.pln,B.out,fun x v hv=>by
  by_cases q:x=b.id
  ·subst q;rw [setB_at] at hv;cases hv;exact hb
  ·rw [show (s.setB b).bx x=s.bx x from updZ_ne _ _ q] at hv;exact B.bx x v hv,B.fu,B.pl⟩
theorem Bd.endC {s:St} (B:Bd s) {f:Int} {g:Fu} (e:s.fu.a f=some g):Bd (s.endC f):=by
 unfold St.endC;rw [St.G_of e];have:=B.fu f g e
 have:=B.now
 exact (B.led s.A (endF s.F f)).setG (f:=f) (g0:=g) e _ (by dsimp only;omega)
theorem Bd.nx {s:St} (B:Bd s) {i:Int} {b:Bo} (e:s.bx i=some b) (k:Nat):Bd (s.setB (nx k b s.now).1):=by
 have h1:=B.bx i b e;have h2:=B.now;refine B.setB _ ?_;rw [nx_id,nx_fn,nx_ho,nx_me];have ht:(W.nx k b s.now).1.t=b.t∨(W.nx k b s.now).1.t=s.now:=by unfold W.nx;split <;> first | exact Or.inl rfl | exact Or.inr rfl
 have:=h1.1
 omega
theorem calledG_ok {s:St} {g:Fu} (B:Bd s) {f:Int} (e:s.fu.a f=some g) (c:Bool):0≤f∧f<64∧0≤(calledG g s.now c).acc∧(calledG g s.now c).acc<16∧1≤(calledG g s.now c).mem∧(calledG g s.now c).mem≤4096∧0≤(calledG g s.now c).cost∧(calledG g s.now c).cost≤1000∧0≤(calledG g s.now c).keep∧(calledG g s.now c).keep≤1000∧0≤(calledG g s.now c).often∧(calledG g s.now c).often≤1000∧-1≤(calledG g s.now c).ended∧(calledG g s.now c).ended≤s.now∧0≤(calledG g s.now c).unt∧(calledG g s.now c).unt≤4398046511104∧(calledG g s.now c).pi.n<1073741823∧(calledG g s.now c).lo.n<1073741823:=by
 have h:=B.fu f g e
 have hk:(calledG g s.now c).acc=g.acc∧(calledG g s.now c).mem=g.mem∧(calledG g s.now c).cost=g.cost∧(calledG g s.now c).keep=g.keep∧(calledG g s.now c).ended=g.ended∧(calledG g s.now c).unt=g.unt∧(calledG g s.now c).pi=g.pi∧(calledG g s.now c).lo=g.lo∧(calledG g s.now c).often=min (g.often+1) 1000:=by
  unfold calledG;split <;> exact ⟨rfl,rfl,rfl,rfl,rfl,rfl,rfl,rfl,rfl⟩
 obtain ⟨h1,h2,h3,h4,h5,h6,h7,h8,h9⟩:=hk;rw [h1,h2,h3,h4,h5,h6,h7,h8,h9];omega
theorem one_wf:(Lit.int .i64 1).wf=true:=by decide
theorem winN_ok (F:Nat→Nat) (o:Nat) (ys:List Int):0≤(winN F o ys).2.1∧(winN F o ys).2.1<(winN F o ys).2.2∧(winN F o ys).2.2≤1264438371943:=by
 obtain ⟨h,p,e,hw,h0,h1,h2⟩:=win_form F o ys;rw [win_eq] at hw;injection hw with hw
 injection hw with hw
 injection hw with a hw
 injection hw with b hw
 injection hw with c hw
 injection a with _ a
 injection b with _ b
 injection c with _ c
 rw [b,c];exact ⟨h0,h1,h2⟩
theorem c_begin {w:World} {own:Nat→Option Tag} {y:Lay} {s:St} (h:Cor w own y s) (B:Bd s) {i:Int} {b:Bo} (e:s.bx i=some b) {p:Pl} (ep:s.pl.a b.ho=some p) {g:Fu} (eg:s.fu.a b.fn=some g):Calls Tryz.prog 43 #[ptr y.c,ptr (y.fb b.fn),ptr (y.bx i)] w fun e w'=>e=.returned (.tuple #[])∧To w own y (s.begin b.fn i) w':=by
 have N0:=Nx.refl w own;have h0:=h;clear h;have wf:=B.wb e;obtain rfl:=(B.bx _ _ e).1;have wg:=B.wg eg;have htn:=B.tn;have hbz:=quiet_eq (k_busy (h0.drewN 1) b.fn);have hcn:(((busy s.F b.fn:Nat):Int) == 0)=(busy s.F b.fn == 0):=by cases busy s.F b.fn <;> rfl
 have HCN:=Lib.hid hcn;clear hcn;have q0:=h0.c0;have q1:=h0.c2;have q2:=h0.g0 eg
 go_enter Tryz.func43,Tryz.ntmps43
 go_wp2_with fail
 go_still_tail 15,(by kernel_rfl)
 still_call hbz
 repeat still_step
 try refine wpStill_nil ?_
 change wpList _ _ _ _ _ w.drew;clear hbz;have h1:=h0.drew;have N1:=N0.drew;clear q0 q1 q2;generalize w.drew=w1 at h1 N1 ⊢;clear h0 N0;go_wp2_with fail
 rw [HCN.out];with_reducible refine (c_called h1 B eg (busy s.F b.fn == 0)).mono ?_
 rintro e1 w2 ⟨rfl,o2,h2,n2⟩;have N2:=N1.trans n2;clear N1 n2 h1;obtain ⟨s1,hs1⟩:∃ z:St,s.setG b.fn (calledG g s.now (busy s.F b.fn == 0))=z:=⟨_,rfl⟩;rw [hs1] at h2;have e1:s1.bx b.id=some b:=by rw [←hs1];exact e
 have eg1:s1.fu.a b.fn=some (calledG g s.now (busy s.F b.fn == 0)):=by rw [←hs1];exact setG_at _ _ _
 have ep1:s1.pl.a b.ho=some p:=by rw [←hs1];exact ep
 have B1:Bd s1:=by rw [←hs1];exact B.setG eg _ (calledG_ok B eg _)
 have ht1:s1.tn=s.tn:=by rw [←hs1] <;> rfl
 have hn1:s1.now=s.now:=by rw [←hs1] <;> rfl
 have Hs1:=Lib.hid hs1;clear hs1;have HT1:=Lib.hid ht1;have HN1:=Lib.hid hn1;clear ht1 hn1;go_wp2_with fail
 have q3:=h2.c9;have q4:=h2.g0 eg1
 go_still_tail 9,(by kernel_rfl)
 change wpList _ _ _ _ _ w2.drew;have h3:=h2.drew;have N3:=N2.drew;clear q3 q4;generalize w2.drew=w3 at h3 N3 ⊢;clear h2 N2;go_wp2_with fail
 have hkw:HT.kw (1,b.fn):=⟨one_wf,wg⟩;have htl:s1.tn<1073741824:=by rw [HT1.out];omega
 with_reducible refine (k_tdrop h3 (1,b.fn) hkw htl).mono ?_
 rintro e3 w4 ⟨⟨ba,rfl⟩,o4,h4,n4⟩;have N4:=N3.trans n4;clear h3 N3 n4;obtain ⟨s2,hs2⟩:∃ z:St,s1.delT (1,b.fn)=z:=⟨_,rfl⟩;rw [hs2] at h4;have e2:s2.bx b.id=some b:=by rw [←hs2];exact e1
 have eg2:s2.fu.a b.fn=some (calledG g s.now (busy s.F b.fn == 0)):=by rw [←hs2];exact eg1
 have ep2:s2.pl.a b.ho=some p:=by rw [←hs2];exact ep1
 have B2:Bd s2:=by rw [←hs2];exact B1.delT _
 have hn2:s2.now=s.now:=by rw [←hs2];exact HN1.out
 have Hs2:=Lib.hid hs2;clear hs2;have HN2:=Lib.hid hn2;clear hn2 e1 eg1 ep1;go_wp2_with fail
 have q5:=h4.c2;have q6:=h4.g0 eg2
 go_still_tail 8,(by kernel_rfl)
 change wpList _ _ _ _ _ w4.drew;have h5:=h4.drew;have N5:=N4.drew;clear q5 q6;generalize w4.drew=w5 at h5 N5 ⊢;clear h4 N4;go_wp2_with fail
 with_reducible refine (k_lbeg h5 b.fn).mono ?_
 rintro e5 w6 ⟨rfl,o6,h6,n6⟩;have N6:=N5.trans n6;clear N5 n6 h5;obtain ⟨s3,hs3⟩:∃ z:St,({ s2 with A:=s2.A,F:=begF s2.A s2.F b.fn }:St)=z:=⟨_,rfl⟩;rw [hs3] at h6;have e3:s3.bx b.id=some b:=by rw [←hs3];exact e2
 have ep3:s3.pl.a b.ho=some p:=by rw [←hs3];exact ep2
 have B3:Bd s3:=by rw [←hs3];exact B2.led _ _
 have hn3:s3.now=s.now:=by rw [←hs3];exact HN2.out
 have Hs3:=Lib.hid hs3;clear hs3;have HN3:=Lib.hid hn3;clear hn3 e2 eg2 ep2;go_wp2_with fail
 with_reducible refine (c_hold h6 B3 e3 ep3).mono ?_
 rintro e6 w7 ⟨rfl,o7,h7,n7⟩;have N7:=N6.trans n7;clear N6 n7 h6;have e4:(s3.hold b.id).bx b.id=some b:=e3;have q7:=(show w7.cell? ⟨y.c,0,none⟩=some (.int .i64 s.now) from by rw [←HN3.out];exact h7.c0)
 go_wp2_with fail
 with_reducible refine (k_bcall h7 e4 rfl s.now).mono ?_
 rintro e7 w8 ⟨rfl,o8,h8,n8⟩;have N8:=N7.trans n8;clear q7;clear N7 n8 h7
 go_wp2
 have hfin:s.begin b.fn b.id=(s3.hold b.id).setB (nx 0 b s.now).1:=by
  rw [←Hs3.out,←Hs2.out,←Hs1.out];unfold St.begin;rw [St.G_of eg];dsimp only;rw [show ((({ (s.setG b.fn (calledG g s.now (busy s.F b.fn == 0))).delT (1,b.fn) with F:=_ }:St).hold b.id).B b.id)=b from St.B_of e]
 go_end0
 exact ⟨rfl,_,by rw [hfin];exact h8,N8⟩
theorem Bd.setT {s:St} (B:Bd s) (k:HT.K) (t:Int) (h:s.tn+1<1073741823):Bd (s.setT k t):=⟨B.now,B.last,by unfold St.setT;dsimp only;split <;> omega,B.mxn,B.ahn,B.tkn,B.fuN,B.pln,B.out,B.bx,B.fu,B.pl⟩
theorem c_rest {w:World} {own:Nat→Option Tag} {y:Lay} {s:St} (h:Cor w own y s) (B:Bd s) {i:Int} {b:Bo} (e:s.bx i=some b) {p:Pl} (ep:s.pl.a b.ho=some p) {g:Fu} (eg:s.fu.a b.fn=some g) (htn:s.tn+1<1073741823):Calls Tryz.prog 134 #[ptr y.c,ptr (y.fb b.fn),ptr (y.bx i)] w fun e w'=>e=.returned (.tuple #[])∧To w own y (s.rest i) w':=by
 have N0:=Nx.refl w own;have h0:=h;clear h;have wf:=B.wb e;obtain rfl:=(B.bx _ _ e).1;have wg:=B.wg eg;have bn:=B.now;have hwk:=winN_ok g.F g.o g.ys;obtain ⟨wh,wp,we,hwin⟩:∃ a b c,g.win=(a,b,c):=⟨_,_,_,rfl⟩;rw [show winN g.F g.o g.ys=(wh,wp,we) from hwin] at hwk
 dsimp only at hwk;have hw1:IntKind.i64.wrap (s.now+we)=s.now+we:=wrap_small (by omega) (by omega)
 have hw2:IntKind.i64.wrap (s.now+wp)=s.now+wp:=wrap_small (by omega) (by omega)
 have HWF:=Lib.hid (And.intro (show (Lit.int .i64 (s.now+we)).wf=true from wfK (by omega) (by omega)) (show (Lit.int .i64 (s.now+wp)).wf=true from wfK (by omega) (by omega)))
 have HBN:=Lib.hid bn;have HWK:=Lib.hid hwk;have HWIN:=Lib.hid hwin;clear bn hwk;have cw:=c_window h0 eg;rw [hwin] at cw;dsimp only at cw;have HCW:=Lib.hid cw;clear cw hwin
 go_enter Tryz.func134,Tryz.ntmps134
 go_wp2_with fail
 with_reducible refine HCW.out.mono ?_
 rintro e0 w1 ⟨rfl,o1,h1,n1⟩;have N1:=N0.trans n1;clear N0 n1 h0 HCW;go_upto_region 1 with (fail)
 have HB2:Hid ((w1.alloc (.cells #[.int .i64 wh,.int .i64 wp,.int .i64 we] 200)).heap[w1.heap.size]?=some (.cells #[.int .i64 wh,.int .i64 wp,.int .i64 we] 200 (0,0))):=Lib.hid (heap_alloc_new w1 _);have HO2:=Lib.hid (h1.fresh (Nat.le_refl w1.heap.size));have h2:=h1.alloc (.cells #[.int .i64 wh,.int .i64 wp,.int .i64 we] 200);have N2:=N1.trans (Nx.below o1 ((Below.refl w1.heap.size w1).alloc (Nat.le_refl _) (.cells #[.int .i64 wh,.int .i64 wp,.int .i64 we] 200)));generalize w1.alloc (.cells #[.int .i64 wh,.int .i64 wp,.int .i64 we] 200)=w2 at HB2 h2 N2 ⊢;generalize w1.heap.size=H at HB2 HO2 ⊢;clear h1 N1
 by_cases hp:wp≤0
 ·have d:decide (wp≤0)=true:=decide_eq_true hp
  have HP:=Lib.hid hp;clear hp;have q0:=(cell_of_row _ _ 1 _ _ _ HB2.out:w2.cell? ⟨H,1,none⟩=some (.int .i64 wp));go_wp2_with fail
  have q1:=h2.c0;have q2:=(cell_of_row _ _ 2 _ _ _ HB2.out:w2.cell? ⟨H,2,none⟩=some (.int .i64 we))
  go_still_tail 9,(by kernel_rfl)
  change wpList _ _ _ _ _ w2.drew;have h3:=h2.drew;have N3:=N2.drew;clear q0 q1 q2;have HB3:Hid (w2.drew.heap[H]?=some (.cells #[.int .i64 wh,.int .i64 wp,.int .i64 we] 200 (0,0))):=HB2;have HO3:=HO2;clear HB2 HO2;generalize w2.drew=w3 at h3 N3 HB3 ⊢;clear h2 N2;go_wp2_with fail
  with_reducible refine (c_idle h3 B e ep eg (s.now+we) HWF.out.1).mono ?_
  rintro e3 w4 ⟨rfl,o4,h4,n4⟩;have N4:=N3.trans n4;have HB4:Hid (w4.heap[H]?=some (.cells #[.int .i64 wh,.int .i64 wp,.int .i64 we] 200 (0,0))):=Lib.hid (n4.blk HO3.out HB3.out);have HO4:=Lib.hid (n4.none HO3.out (lt_of_row HB3.out));clear HB3 HO3;clear N3 n4 h3
  go_wp2
  (try simp only [Exit.inBlock,Exit.then]);refine bodyPost_ret (results_none rfl _ _ _) rfl ?_
  exact ⟨rfl,_,by simp only [St.rest,St.B_of e,St.G_of eg,HWIN.out,if_pos HP.out];exact h4,N4⟩
 ·have d:decide (wp≤0)=false:=dec_f hp
  have HP:=Lib.hid hp;clear hp;have q3:=(cell_of_row _ _ 1 _ _ _ HB2.out:w2.cell? ⟨H,1,none⟩=some (.int .i64 wp));go_wp2_with fail
  have q4:=h2.c9;have q5:=h2.g0 eg;have q6:=h2.c0
  go_still_tail 16,(by kernel_rfl)
  change wpList _ _ _ _ _ w2.drew;have h3:=h2.drew;have N3:=N2.drew;clear q3 q4 q5 q6;have HB3:Hid (w2.drew.heap[H]?=some (.cells #[.int .i64 wh,.int .i64 wp,.int .i64 we] 200 (0,0))):=HB2;have HO3:=HO2;clear HB2 HO2;generalize w2.drew=w3 at h3 N3 HB3 ⊢;clear h2 N2;go_wp2_with fail
  have hkw:HT.kw (1,b.fn):=⟨one_wf,wg⟩;have htl:s.tn<1073741823:=B.tn;with_reducible refine (k_tset h3 (1,b.fn) (s.now+wp) hkw HWF.out.2 htl).mono ?_
  rintro e3 w4 ⟨rfl,o4,h4,n4⟩;have N4:=N3.trans n4;have HB4:Hid (w4.heap[H]?=some (.cells #[.int .i64 wh,.int .i64 wp,.int .i64 we] 200 (0,0))):=Lib.hid (n4.blk HO3.out HB3.out);have HO4:=Lib.hid (n4.none HO3.out (lt_of_row HB3.out));clear HB3 HO3;clear N3 n4 h3;obtain ⟨s1,hs1⟩:∃ z:St,s.setT (1,b.fn) (s.now+wp)=z:=⟨_,rfl⟩;rw [hs1] at h4;have e1:s1.bx b.id=some b:=by rw [←hs1];exact e
  have eg1:s1.fu.a b.fn=some g:=by rw [←hs1];exact eg
  have ep1:s1.pl.a b.ho=some p:=by rw [←hs1];exact ep
  have hn1:s1.now=s.now:=by rw [←hs1] <;> rfl
  have B1:Bd s1:=by rw [←hs1];exact (B.setT _ _ htn)
  have Hs1:=Lib.hid hs1;clear hs1;have HN1:=Lib.hid hn1;clear hn1;go_wp2_with fail
  have q7:=(show w4.cell? ⟨y.c,0,none⟩=some (.int .i64 s.now) from by rw [←HN1.out];exact h4.c0)
  have q8:=(cell_of_row _ _ 2 _ _ _ HB4.out:w4.cell? ⟨H,2,none⟩=some (.int .i64 we))
  go_still_tail 10,(by kernel_rfl)
  change wpList _ _ _ _ _ w4.drew;have h5:=h4.drew;have N5:=N4.drew;clear q7 q8;have HB5:Hid (w4.drew.heap[H]?=some (.cells #[.int .i64 wh,.int .i64 wp,.int .i64 we] 200 (0,0))):=HB4;have HO5:=HO4;clear HB4 HO4;generalize w4.drew=w5 at h5 N5 HB5 ⊢;clear h4 N4;have hr:=((h5.ob (.fb b.fn)) _ eg1).2;refine wpList_store_in rfl 2 (.tmp 48) (.tmp 46) rfl (by kernel_rfl) (y.fb b.fn) 7 rfl .i64 (s.now+we) rfl _ _ hr (by simp [frow]) ?_
  intro w6 m6 g6;obtain ⟨h6,n6⟩:=Cor.fb h5 eg1 { g with unt:=s.now+we } rfl rfl rfl rfl rfl m6.out g6;have N6:=N5.trans n6;have HB6:Hid (w6.heap[H]?=some (.cells #[.int .i64 wh,.int .i64 wp,.int .i64 we] 200 (0,0))):=Lib.hid (n6.blk HO5.out HB5.out);have HO6:=Lib.hid (n6.none HO5.out (lt_of_row HB5.out));clear HB5 HO5;clear hr h5 N5 n6 m6 g6;obtain ⟨s2,hs2⟩:∃ z:St,s1.setG b.fn { g with unt:=s.now+we }=z:=⟨_,rfl⟩;rw [hs2] at h6;have e2:s2.bx b.id=some b:=by rw [←hs2];exact e1
  have eg2:s2.fu.a b.fn=some { g with unt:=s.now+we }:=by rw [←hs2];exact setG_at _ _ _
  have ep2:s2.pl.a b.ho=some p:=by rw [←hs2];exact ep1
  have B2:Bd s2:=by rw [←hs2];exact (B1.setG eg1 _ (by have:=B.fu _ _ eg;have:=HBN.out;have:=HWK.out;have:=HN1.out;dsimp only;omega))
  have Hs2:=Lib.hid hs2;clear hs2;go_wp2_with fail
  with_reducible refine (c_kill h6 B2 e2 ep2 eg2).mono ?_
  rintro e6 w7 ⟨rfl,o7,h7,n7⟩;have N7:=N6.trans n7;have HB7:Hid (w7.heap[H]?=some (.cells #[.int .i64 wh,.int .i64 wp,.int .i64 we] 200 (0,0))):=Lib.hid (n7.blk HO6.out HB6.out);have HO7:=Lib.hid (n7.none HO6.out (lt_of_row HB6.out));clear HB6 HO6;clear N6 n7 h6
  go_wp2
  go_end0
  exact ⟨rfl,_,by simp only [St.rest,St.B_of e,St.G_of eg,HWIN.out,if_neg (show ¬ wp≤0 by have:=HP.out;omega)];rw [Hs1.out,Hs2.out];exact h7,N7⟩
theorem nx_p {k:Nat} (c:Bo) (now:Int) (hk:k<3):(nx k c now).1.p=c.p:=by
 have:k=0∨k=1∨k=2:=by omega
 rcases this with rfl | rfl | rfl <;> (cases hq:c.q <;> simp [nx,hq])
theorem setB_id {s:St} {b:Bo} (e:s.bx b.id=some b):s.setB b=s:=by unfold St.setB;rw [updZ_id _ e]
theorem c_done {w:World} {own:Nat→Option Tag} {y:Lay} {s:St} (h:Cor w own y s) (B:Bd s) {i:Int} {b:Bo} (e:s.bx i=some b) {p:Pl} (ep:s.pl.a b.ho=some p) {g:Fu} (eg:s.fu.a b.fn=some g) (htn:s.tn+1<1073741823):Calls Tryz.prog 91 #[ptr y.c,ptr (y.bx i)] w fun e w'=>e=.returned (.int .i64 (s.done i).2)∧To w own y (s.done i).1 w':=by
 have N0:=Nx.refl w own;have h0:=h;clear h;have wf:=B.wb e;obtain rfl:=(B.bx _ _ e).1;have wg:=B.wg eg
 cases hd:(nx 2 b s.now).2 with
 | false =>
  have q0:=h0.c0
  go_enter Tryz.func91,Tryz.ntmps91
  go_wp2_with fail
  with_reducible refine (k_bdone h0 e rfl s.now).mono ?_
  rintro e0 w1 ⟨rfl,o1,h1,n1⟩;have N1:=N0.trans n1;clear q0;clear N0 n1 h0;rw [hd]
  go_wp2
  have hsame:(nx 2 b s.now).1=b:=by cases hq:b.q <;> simp [nx,hq] at hd ⊢
  go_ret
  exact ⟨by simp [St.done,St.B_of e,hd],_,by simp only [St.done,St.B_of e,hd,Bool.false_eq_true,if_false];rw [hsame,setB_id e] at h1;exact h1,N1⟩
 | true =>
  have q1:=h0.c0
  go_enter Tryz.func91,Tryz.ntmps91
  go_wp2_with fail
  with_reducible refine (k_bdone h0 e rfl s.now).mono ?_
  rintro e0 w1 ⟨rfl,o1,h1,n1⟩;have N1:=N0.trans n1;clear q1;clear N0 n1 h0;rw [hd];have hk1:=nx_id 2 b s.now;have hk2:=nx_ho 2 b s.now;have hk3:=nx_fn 2 b s.now;have hk4:=nx_p b s.now (k:=2) (by omega)
  obtain ⟨bk,hbk⟩:∃ bk,(nx 2 b s.now).1=bk:=⟨_,rfl⟩;rw [hbk] at hk1 hk2 hk3 hk4;rw [hbk] at h1;have BB:=B.nx e 2;rw [hbk] at BB;obtain ⟨s1,hs1⟩:∃ z:St,s.setB bk=z:=⟨_,rfl⟩;rw [hs1] at h1;have e1:s1.bx b.id=some bk:=by rw [←hs1];exact (by have:=setB_at s bk;rw [hk1] at this;exact this)
  have eg1:s1.fu.a b.fn=some g:=by rw [←hs1];exact eg
  have ep1:s1.pl.a b.ho=some p:=by rw [←hs1];exact ep
  have B1:Bd s1:=by rw [←hs1];exact BB
  have ht1:s1.tn=s.tn:=by rw [←hs1] <;> rfl
  have hu1:s1.H=s.H:=by rw [←hs1] <;> rfl
  have Hs1:=Lib.hid hs1;clear hs1;have HK1:=Lib.hid hk1;have HK2:=Lib.hid hk2;have HK3:=Lib.hid hk3;have HK4:=Lib.hid hk4;have HBK:=Lib.hid hbk;have HT1:=Lib.hid ht1;have HU1:=Lib.hid hu1;clear hk1 hk2 hk3 hk4 hbk BB ht1 hu1;go_wp2_with fail
  have q2:=h1.c4;have q3:=(show w1.cell? ⟨y.bx b.id,1,none⟩=some (.int .i64 b.fn) from by rw [←HK3.out];exact h1.b1 e1)
  have q4:=fun y=>(h1.drewN y).lf eg1 wf.2.2.2;have q5:=h1.drew.lf eg1 wf.2.2.2;have q6:=h1.lf eg1 wf.2.2.2
  go_still_tail 9,(by kernel_rfl)
  change wpList _ _ _ _ _ w1.drew;have h2:=h1.drew;have N2:=N1.drew;clear q2 q3 q4 q5 q6;generalize w1.drew=w2 at h2 N2 ⊢;clear h1 N1;go_wp2_with fail
  with_reducible refine (c_end h2 eg1).mono ?_
  rintro e2 w3 ⟨rfl,o3,h3,n3⟩;have N3:=N2.trans n3;clear N2 n3 h2;obtain ⟨s2,hs2⟩:∃ z:St,s1.endC b.fn=z:=⟨_,rfl⟩;rw [hs2] at h3;have e2:s2.bx b.id=some bk:=by rw [←hs2];exact e1
  have eg2:s2.fu.a b.fn=some { g with ended:=s1.now }:=by rw [←hs2];exact (by unfold St.endC;rw [St.G_of eg1];exact setG_at _ _ _)
  have ep2:s2.pl.a b.ho=some p:=by rw [←hs2];exact ep1
  have B2:Bd s2:=by rw [←hs2];exact (B1.endC eg1)
  have ht2:s2.tn=s.tn:=by rw [←hs2];exact HT1.out
  have hu2:s2.H=s.H:=by rw [←hs2];exact HU1.out
  have Hs2:=Lib.hid hs2;clear hs2;have HT2:=Lib.hid ht2;have HU2:=Lib.hid hu2;clear ht2 hu2 e1 eg1 ep1;have hbo:upB s2.H b.ho=upB s.H b.ho:=by rw [HU2.out]
  have HBO:=Lib.hid hbo;clear hbo;go_wp2_with fail
  have q7:=h3.c5;have q8:=(show w3.cell? ⟨y.bx b.id,2,none⟩=some (.int .i64 b.ho) from by rw [←HK2.out];exact h3.b2 e2)
  go_still_tail 8,(by kernel_rfl)
  change wpList _ _ _ _ _ w3.drew;have h4:=h3.drew;have N4:=N3.drew;clear q7 q8;generalize w3.drew=w4 at h4 N4 ⊢;clear h3 N3;go_wp2_with fail
  with_reducible refine (k_up h4 b.ho).mono ?_
  rintro e4 v4 ⟨rfl,rfl⟩;rw [HBO.out]
  cases hu:upB s.H b.ho with
  | false =>
   have e3:=e2;have ep3:s2.pl.a bk.ho=some p:=by rw [HK2.out];exact ep2
   have eg3:s2.fu.a bk.fn=some { g with ended:=s1.now }:=by rw [HK3.out];exact eg2
   go_wp2_with fail
   with_reducible refine (c_kill h4 B2 e3 ep3 eg3).mono ?_
   rintro e4 w5 ⟨rfl,o5,h5,n5⟩;have N5:=N4.trans n5;clear N4 n5 h4
   go_wp2
   go_ret
   exact ⟨by simp [St.done,St.B_of e,hd],_,by simp only [St.done,St.B_of e,hd,if_true,HBK.out,hu];rw [Hs1.out,Hs2.out];exact h5,N5⟩
  | true =>
   have q9:=(show w4.cell? ⟨y.bx b.id,6,none⟩=some (.bool b.p) from by rw [←HK4.out];exact h4.b6 e2)
   cases hp:b.p with
   | true =>
    rw [hp] at q9
    go_wp2
    go_ret
    exact ⟨by simp [St.done,St.B_of e,hd],_,by simp only [St.done,St.B_of e,hd,if_true,HBK.out,hu,hp];rw [Hs1.out,Hs2.out];exact h4,N4⟩
   | false =>
    rw [hp] at q9;go_wp2_with fail
    have ep3:s2.pl.a bk.ho=some p:=by rw [HK2.out];exact ep2
    have eg3:s2.fu.a bk.fn=some { g with ended:=s1.now }:=by rw [HK3.out];exact eg2
    have htn2:s2.tn+1<1073741823:=by rw [HT2.out];exact htn
    have hfn:y.fb b.fn=y.fb bk.fn:=by rw [HK3.out]
    rw [hfn];with_reducible refine (c_rest h4 B2 e2 ep3 eg3 htn2).mono ?_
    rintro e4 w5 ⟨rfl,o5,h5,n5⟩;have N5:=N4.trans n5;clear q9;clear N4 n5 h4
    go_wp2
    go_ret
    exact ⟨by simp [St.done,St.B_of e,hd],_,by simp only [St.done,St.B_of e,hd,if_true,HBK.out,hu,hp];rw [Hs1.out,Hs2.out];exact h5,N5⟩
end Go.Proofs.YthdengocipfgiaaGreat.W.C
