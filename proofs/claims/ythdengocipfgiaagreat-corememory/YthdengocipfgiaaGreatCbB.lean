import Derived.Test.YthdengocipfgiaaGreatCbA
import Derived.BigRegion
import Derived.BigQuiet
import Derived.StillTailTactics
/- A part of what core's laws stand on. -/
set_option linter.unusedVariables false
set_option linter.unusedSimpArgs false
set_option maxRecDepth 100000
set_option maxHeartbeats 8000000
namespace Go.Proofs.YthdengocipfgiaaGreat.W.C
open Go.RowKit Go.Proofs.YthdengocipfgiaaGreat.W
theorem Cor.drew {w:World} {own:Nat→Option Tag} {y:Lay} {s:St} (h:Cor w own y s):Cor w.drew own y s:=h.drewN 1
theorem Nx.drew {w w1:World} {o o1:Nat→Option Tag} (h:Nx w o w1 o1):Nx w o w1.drew o1:=⟨h.only.drewN 1,h.new⟩
theorem Bd.wb {s:St} (B:Bd s) {i:Int} {b:Bo} (e:s.bx i=some b):(KL i).wf=true∧(KL b.id).wf=true∧(KL b.ho).wf=true∧(KL b.fn).wf=true:=by
 have:=B.bx i b e;have:=B.last
 exact ⟨wfK (by omega) (by omega),wfK (by omega) (by omega),wfK (by omega) (by omega),wfK (by omega) (by omega)⟩
theorem Bd.wp {s:St} (B:Bd s) {i:Int} {b:Pl} (e:s.pl.a i=some b):(KL i).wf=true:=by
 have:=B.pl i b e;exact wfK (by omega) (by omega)
theorem Bd.wg {s:St} (B:Bd s) {i:Int} {b:Fu} (e:s.fu.a i=some b):(KL i).wf=true:=by
 have:=B.fu i b e;exact wfK (by omega) (by omega)
theorem c_end {w:World} {own:Nat→Option Tag} {y:Lay} {s:St} (h:Cor w own y s) {f:Int} {g:Fu} (e:s.fu.a f=some g):Calls Tryz.prog 127 #[ptr y.c,ptr (y.fb f)] w fun e w'=>e=.returned (.tuple #[])∧To w own y (s.endC f) w':=by
 have N0:=Nx.refl w own;have h0:=h;clear h;have q0:=h0.c2;have q1:=h0.g0 e
 go_enter Tryz.func127,Tryz.ntmps127
 go_wp2_with fail
 go_still_tail 8,(by kernel_rfl)
 change wpList _ _ _ _ _ w.drew;have h1:=h0.drew;have N1:=N0.drew;clear q0 q1;generalize w.drew=w1 at h1 N1 ⊢;clear h0 N0;go_wp2_with fail
 refine (k_lend h1 f).mono ?_;rintro e1 w2 ⟨rfl,o2,h2,n2⟩;have N2:=N1.trans n2;clear N1 n2 h1;have q2:=h2.c0;have hr:=((h2.ob (.fb f)) g e).2;go_wp2_with (with_reducible refine wpList_store_in rfl 2 (.tmp 19) (.tmp 17) rfl (by kernel_rfl) (y.fb f) 6 rfl .i64 s.now rfl _ _ hr (by simp [frow]) ?_;intro w3 m3 g3)
 obtain ⟨h3,n3⟩:=Cor.fb h2 e { g with ended:=s.now } rfl rfl rfl rfl rfl m3.out g3;have N3:=N2.trans n3
 go_end0
 exact ⟨rfl,_,by unfold St.endC;rw [St.G_of e];exact h3,N3⟩
theorem c_leave {w:World} {own:Nat→Option Tag} {y:Lay} {s:St} (h:Cor w own y s) {x:Int} (hx:(KL x).wf=true):Calls Tryz.prog 87 #[ptr y.c,.int .i64 x] w fun e w'=>e=.returned (.tuple #[])∧To w own y (s.leave x) w':=by
 have N0:=Nx.refl w own;have h0:=h;clear h
 cases hH:(s.H x).isSome with
 | true =>
  have q0:=h0.c5
  go_enter Tryz.func87,Tryz.ntmps87
  go_wp2_with fail
  refine (k_there h0 x).mono ?_;rintro e0 v0 ⟨rfl,rfl⟩;rw [hH];clear q0
  go_wp2
  go_end0
  exact ⟨rfl,_,by unfold St.leave;rw [if_pos hH];exact h0,N0⟩
 | false =>
  have q1:=h0.c5;have q2:=h0.c6;have hmp:=MpT.mp (h0.ob .mp).2
  go_enter Tryz.func87,Tryz.ntmps87
  go_wp2_with fail
  refine (k_there h0 x).mono ?_;rintro e0 v0 ⟨rfl,rfl⟩;rw [hH];go_wp2_with (with_reducible refine wpList_mp_del rfl (.tmp 14) (.tmp 15) 56 3 rfl 163 Tryz.underlying3 Tryz.underlying56 _ _ _ rfl hmp x rfl hx _ rfl ?_;intro w1 m1 g1)
  obtain ⟨h1,n1⟩:=h0.mp_del (MpT.del m1) g1;have N1:=N0.trans n1
  go_end0
  exact ⟨rfl,_,by unfold St.leave;rw [if_neg (by rw [hH];simp)];exact h1,N1⟩
theorem Tb.set_set {α:Type} (m:Tb α) (i:Int) (v u:α):(m.set i v).set i u=m.set i u:=by
 unfold Tb.set;simp [updZ_same,updZ_twice]
theorem setP_setP (s:St) (x:Int) (p q:Pl):(s.setP x p).setP x q=s.setP x q:=by unfold St.setP;rw [Tb.set_set]
theorem setG_setG (s:St) (x:Int) (p q:Fu):(s.setG x p).setG x q=s.setG x q:=by unfold St.setG;rw [Tb.set_set]
theorem setP_at (s:St) (x:Int) (p:Pl):(s.setP x p).pl.a x=some p:=Tb.set_at _ _ _
theorem setG_at (s:St) (x:Int) (p:Fu):(s.setG x p).fu.a x=some p:=Tb.set_at _ _ _
theorem setB_at (s:St) (b:Bo):(s.setB b).bx b.id=some b:=updZ_same _ _ _
theorem dropP_some {p:Pl} {i me:Int} {v:HR.V} (h:p.ca i=some v):dropP p i me={ p with ca:=updZ p.ca i none,cn:=p.cn-1,sp:=p.sp-me }:=by unfold dropP;rw [h]
theorem dropP_none {p:Pl} {i me:Int} (h:p.ca i=none):dropP p i me=p:=by unfold dropP;rw [h]
theorem nx_ho (k:Nat) (c:Bo) (now:Int):(nx k c now).1.ho=c.ho:=by unfold nx;split <;> rfl
theorem nx_me (k:Nat) (c:Bo) (now:Int):(nx k c now).1.me=c.me:=by unfold nx;split <;> rfl
theorem nx_fn (k:Nat) (c:Bo) (now:Int):(nx k c now).1.fn=c.fn:=by unfold nx;split <;> rfl
theorem c_drop {w:World} {own:Nat→Option Tag} {y:Lay} {s:St} (h:Cor w own y s) (B:Bd s) {i:Int} {b:Bo} (e:s.bx i=some b) {x:Int} {p:Pl} (ep:s.pl.a x=some p):Calls Tryz.prog 110 #[ptr (y.pb x),ptr (y.bx i)] w fun e w'=>e=.returned (.tuple #[])∧To w own y (s.setP x (dropP p i b.me)) w':=by
 have N0:=Nx.refl w own;have h0:=h;clear h;have bp:=B.pl _ _ ep;have bb:=B.bx _ _ e;have wfi:=(B.wb e).1;obtain rfl:=bb.1;have hwr:IntKind.i64.wrap (p.sp-b.me)=p.sp-b.me:=wrap_small (by omega) (by omega)
 have hcn:p.cn<1073741824:=by omega
 clear bp bb;have q0:=h0.p1 ep;have q1:=h0.b0 e
 go_enter Tryz.func110,Tryz.ntmps110
 go_wp2_with fail
 go_still_tail 8,(by kernel_rfl)
 change wpList _ _ _ _ _ w.drew;have h1:=h0.drew;have N1:=N0.drew;clear q0 q1;generalize w.drew=w1 at h1 N1 ⊢;clear h0 N0;go_wp2_with fail
 refine (k_wdrop h1 ep b.id wfi hcn).mono ?_;rintro e1 w2 ⟨rfl,o2,h2,n2⟩;have N2:=N1.trans n2;clear N1 n2 h1
 cases hA:p.ca b.id with
 | none =>
  go_wp2
  go_end0
  exact ⟨rfl,_,by rw [dropP_none hA,←show ({ p with cl:=p.cl,cn:=if (p.ca b.id).isSome then p.cn-1 else p.cn,ca:=updZ p.ca b.id none }:Pl)=p by rw [updZ_id _ hA,hA];rfl];exact h2,N2⟩
 | some v =>
  rw [hA] at h2;have e1:(s.setP x { p with cl:=p.cl,cn:=if (some v).isSome then p.cn-1 else p.cn,ca:=updZ p.ca b.id none }).pl.a x=some _:=setP_at _ _ _
  dsimp only [Option.isSome];go_wp2_with fail
  have q2:=h2.p2 e1;have q3:=h2.b3 (show (s.setP x _).bx b.id=some b from e)
  go_still_tail 11,(by kernel_rfl)
  change wpList _ _ _ _ _ w2.drew;have h3:=h2.drew;have N3:=N2.drew;clear q2 q3;generalize w2.drew=w3 at h3 N3 ⊢;clear h2 N2;have hr:=((h3.ob (.pb x)) _ e1).2;refine wpList_store_in rfl 3 (.tmp 23) (.tmp 21) rfl (by kernel_rfl) (y.pb x) 2 rfl .i64 (p.sp-b.me) rfl _ _ hr (by simp [prow]) ?_
  intro w4 m4 g4;obtain ⟨h4,n4⟩:=Cor.pb h3 e1 (x:=p.sp-b.me) m4.out g4;have N4:=N3.trans n4;clear hr N3 n4 h3 m4 g4
  go_wp2
  go_end0
  exact ⟨rfl,_,by rw [dropP_some hA];rw [setP_setP] at h4;exact h4,N4⟩
theorem infoCmd:(Tryz.prog.info? 49).map (fun i=>(i.zero,i.size,i.bytes))=some (some (.agg #[.bool false,.int .i64 0,.int .i64 0,.int .i64 0]),4,32):=by kernel_rfl
theorem encC:Enc cmdC 4:=⟨fun _=>rfl,by decide,fun x u hu=>by simp at hu;rcases hu with rfl | rfl | rfl | rfl <;> rfl⟩
theorem c_give {w:World} {own:Nat→Option Tag} {y:Lay} {s:St} (h:Cor w own y s) (hout:s.out.length<1073741823) (bt:Bool) {i:Int} {b:Bo} (e:s.bx i=some b):Calls Tryz.prog 117 #[ptr y.c,.bool bt,ptr (y.bx i)] w fun e w'=>e=.returned (.tuple #[])∧To w own y (s.give bt b) w':=by
 have N0:=Nx.refl w own;have h0:=h;clear h;obtain ⟨oc,v,G,hrow,hits,hG⟩:=h0.ob .core;obtain ⟨iT,hi1,hi2,hi3,hi4⟩:=HR.info3 infoCmd
 have hlim:s.out.length+1≤maxLen:=by
                       have:(1073741824:Nat)<maxLen:=by decide
                       omega
 have hby:(s.out.length+1)*32≤140737488355328:=by omega
 have c15:=cellL hrow 15 v rfl;have q0:=h0.b0 e;have q1:=h0.b1 e;have q2:=h0.b2 e;obtain ⟨Z,hZ⟩:∃ Z,Obj.cells #[Value.bool bt,.int .i64 b.id,.int .i64 b.fn,.int .i64 b.ho] 49=Z:=⟨_,rfl⟩
 have hown:(w.alloc Z).drew.ownsRow 0 49 4 v s.out.length (flat cmdC (outT s.out) s.out.length)∧v.ownBlock=G:=by
  have hk:=hits.kept (((Only.refl w (fun _=>False)).alloc Z).drewN 1) (fun _ _ q=>q)
  rcases hk with ⟨rfl,rfl,h0⟩ | ⟨g,cap,rfl,rfl,h3⟩
  ·rw [h0];exact ⟨⟨by simp [flat],Or.inl ⟨rfl,rfl⟩⟩,rfl⟩
  ·exact ⟨h3.owns encC,rfl⟩
 have hrn:=range_new w [Value.bool bt,.int .i64 b.id,.int .i64 b.fn,.int .i64 b.ho] 49;rw [show Obj.cells [Value.bool bt,.int .i64 b.id,.int .i64 b.fn,.int .i64 b.ho].toArray 49=Z from hZ] at hrn
 obtain ⟨v',w2,hrun,hown2,hgr,_,hblk⟩:=run_append_own_at (P:=Tryz.prog) (w.alloc Z).drew 0 36 36 49 iT (.agg #[.bool false,.int .i64 0,.int .i64 0,.int .i64 0]) 4 32 Tryz.underlying36 hi1 hi2 hi3 hi4 rfl (by decide) v s.out.length _ hown.1 ⟨w.heap.size,0,none⟩ 1 1 (cmdC (bt,b.id,b.fn,b.ho)) rfl (fun j u hj=>by rw [Addr.add_mid];exact hrn j u hj) (encC.one _) hlim hby (Nat.zero_le _)
 obtain ⟨g1,cap1,rfl⟩:∃ g cap,v'=.slice (some ⟨g,0,none⟩) (s.out.length+1) cap:=by
  rcases hown2.2 with ⟨_,q⟩ | ⟨g,cap,cur,q,_⟩
  ·omega
  ·exact ⟨g,cap,q⟩
 have hG2:v.ownBlock=G:=hown.2;rw [hG2] at hgr hblk;have hO2:Only w w2 (fun j=>G=some j):=(((Only.refl w _).alloc Z).drewN 1).tr ⟨hgr.os,hgr.tape,hgr.output,hgr.size,fun k hk hn=>hgr.block k hk (fun q=>hn q.symm)⟩;have hr2:=hO2.blk (fun q=>(hG _ q).2 rfl) hrow;have k1:=cellL hr2 15 v rfl;have k2:=frozen_of_row w2 y.c 15 _ _ hr2;have HR2:=Lib.hid hr2;have HG2:=Lib.hid hblk;have HOWN:=Lib.hid hown2;have HC:=Lib.hid hG;have HZ:=Lib.hid hZ;have c15a:(w.alloc Z).drew.cell? ⟨y.c,15,none⟩=some v:=(((Only.refl w (fun _=>False)).alloc Z).drewN 1).cell (x:=⟨y.c,15,none⟩) (fun q=>q) c15;have HCL:=Lib.hid (lt_of_row hrow);subst hZ;clear hr2 hblk hown2 hown hgr hrn hG hits hrow hG2;simp [go_sem] at hrun
 go_enter Tryz.func117,Tryz.ntmps117
 go_region
 clear hrun
 go_end0
 have hg1:(own g1=some .core∨w.heap.size≤g1)∧g1≠y.c:=by
  have:=HCL.out
  rcases HG2.out with q | q
  ·have q':some g1=G:=q
   exact ⟨Or.inl (HC.out _ q'.symm).1,(HC.out _ q'.symm).2⟩
  ·have q':g1=w.heap.size+1:=by
    have:some g1=some ((w.alloc (.cells #[Value.bool bt,.int .i64 b.id,.int .i64 b.fn,.int .i64 b.ho] 49)).drew.heap.size):=q
    have:=Option.some.inj this
    rw [this];exact World.size_alloc _ _
   exact ⟨Or.inr (by omega),by omega⟩
 have hset:=grown_set w2 0 y.c 15 (.slice (some ⟨g1,0,none⟩) (s.out.length+1) cap1)
 have hrow3:Row cmdC 4 49 w2 g1 (s.out.length+1) cap1 (outT (s.out ++ [(bt,b.id,b.fn,b.ho)])):=by
  refine Row.of_owns encC ?_;rw [flat_succ,flat_ext (T:=outT s.out) (fun j hj=>by unfold outT;rw [List.getD_eq_getElem?_getD,List.getD_eq_getElem?_getD,List.getElem?_append_left hj]),show outT (s.out ++ [(bt,b.id,b.fn,b.ho)]) s.out.length=(bt,b.id,b.fn,b.ho) by unfold outT;simp]
  exact HOWN.out
 have hO3:Only w (w2.setCell ⟨y.c,15,none⟩ (.slice (some ⟨g1,0,none⟩) (s.out.length+1) cap1)) (fun j=>own j=some .core) :=
  (hO2.mono (fun j q=>(HC.out j q).1)).tr (Only.grown hset (Or.inl oc))
 refine ⟨rfl,To.of (h0.core (now:=s.now) (last:=s.last) y.an (out:=s.out ++ [(bt,b.id,b.fn,b.ho)]) (.slice (some ⟨g1,0,none⟩) (s.out.length+1) cap1) (some g1) hO3 (set_rowL HR2.out 15 _) ?_ (fun g q=>by cases q;exact hg1))⟩
 rw [List.length_append];exact Or.inr ⟨g1,cap1,rfl,rfl,hrow3.kept (Only.grown hset (Or.inl rfl) (S:=fun j=>j=y.c)) hg1.2⟩
theorem c_hold {w:World} {own:Nat→Option Tag} {y:Lay} {s:St} (h:Cor w own y s) (B:Bd s) {i:Int} {b:Bo} (e:s.bx i=some b) {p:Pl} (ep:s.pl.a b.ho=some p):Calls Tryz.prog 67 #[ptr y.c,ptr (y.bx i)] w fun e w'=>e=.returned (.tuple #[])∧To w own y (s.hold i) w':=by
 have N0:=Nx.refl w own;have h0:=h;clear h;have wf:=B.wb e;have htn:=B.tn;obtain rfl:=(B.bx _ _ e).1;have q0:=h0.c6;have q1:=h0.b2 e;have q2:=fun y=>(h0.drewN y).lp ep wf.2.2.1;have q3:=h0.drew.lp ep wf.2.2.1;have q4:=h0.lp ep wf.2.2.1
 go_enter Tryz.func67,Tryz.ntmps67
 go_wp2_with fail
 go_still_tail 10,(by kernel_rfl)
 change wpList _ _ _ _ _ w.drew;have h1:=h0.drew;have N1:=N0.drew;clear q0 q1 q2 q3 q4;generalize w.drew=w1 at h1 N1 ⊢;clear h0 N0;go_wp2_with fail
 refine (c_drop h1 B e ep).mono ?_;rintro e1 w2 ⟨rfl,o2,h2,n2⟩;have N2:=N1.trans n2;clear N1 n2 h1;have e1:(s.setP b.ho (dropP p b.id b.me)).bx b.id=some b:=e;go_wp2_with fail
 have q5:=h2.c9;have q6:=h2.b0 e1
 go_still_tail 9,(by kernel_rfl)
 change wpList _ _ _ _ _ w2.drew;have h3:=h2.drew;have N3:=N2.drew;clear q5 q6;generalize w2.drew=w3 at h3 N3 ⊢;clear h2 N2;go_wp2_with fail
 refine (k_tdrop h3 (0,b.id) ⟨show (KL 0).wf=true by decide,wf.2.1⟩ (by show s.tn<_;omega)).mono ?_
 rintro e3 w4 ⟨⟨ba,rfl⟩,o4,h4,n4⟩;have N4:=N3.trans n4
 go_wp2
 go_end0
 exact ⟨rfl,_,by unfold St.hold;rw [St.B_of e,St.P_of ep];exact h4,N4⟩
theorem c_gone {w:World} {own:Nat→Option Tag} {y:Lay} {s:St} (h:Cor w own y s) (B:Bd s) {i:Int} {b:Bo} (e:s.bx i=some b) {p:Pl} (ep:s.pl.a b.ho=some p) {g:Fu} (eg:s.fu.a b.fn=some g):Calls Tryz.prog 88 #[ptr y.c,ptr (y.bx i)] w fun e w'=>e=.returned (.tuple #[])∧To w own y (s.gone i) w':=by
 have N0:=Nx.refl w own;have h0:=h;clear h;have wf:=B.wb e;obtain rfl:=(B.bx _ _ e).1
 go_enter Tryz.func88,Tryz.ntmps88
 go_wp2_with fail
 refine (c_hold h0 B e ep).mono ?_;rintro e0 w1 ⟨rfl,o1,h1,n1⟩;have N1:=N0.trans n1;clear N0 n1 h0;have e1:(s.hold b.id).bx b.id=some b:=e;have eg1:(s.hold b.id).fu.a b.fn=some g:=eg;have ep1:(s.hold b.id).pl.a b.ho=some (dropP p b.id b.me):=by unfold St.hold;rw [St.B_of e,St.P_of ep];exact setP_at _ _ _
 generalize hP:dropP p b.id b.me=p1 at ep1;go_wp2_with fail
 have q0:=h1.c4;have q1:=h1.b1 e1;have q2:=fun y=>(h1.drewN y).lf eg1 wf.2.2.2;have q3:=h1.drew.lf eg1 wf.2.2.2;have q4:=h1.lf eg1 wf.2.2.2
 go_still_tail 9,(by kernel_rfl)
 change wpList _ _ _ _ _ w1.drew;have h2:=h1.drew;have N2:=N1.drew;clear q0 q1 q2 q3 q4;generalize w1.drew=w2 at h2 N2 ⊢;clear h1 N1;go_wp2_with fail
 refine (k_runs h2 e1).mono ?_;rintro e2 v2 ⟨rfl,rfl⟩
 cases hr:b.q.runs with
 | true =>
  go_wp2_with fail
  refine (c_end h2 eg1).mono ?_;rintro e2 w3 ⟨rfl,o3,h3,n3⟩;have N3:=N2.trans n3;clear N2 n3 h2;have e2:((s.hold b.id).endC b.fn).bx b.id=some b:=e;have eg2:((s.hold b.id).endC b.fn).fu.a b.fn=some { g with ended:=s.now }:=by unfold St.endC;rw [St.G_of eg1];exact setG_at _ _ _
  have ep2:((s.hold b.id).endC b.fn).pl.a b.ho=some p1:=ep1;obtain ⟨s2,hs2⟩:∃ s2,(s.hold b.id).endC b.fn=s2:=⟨_,rfl⟩;have hn2:s2.now=s.now:=by rw [←hs2];rfl
  obtain ⟨g2,hg2⟩:∃ g2,({ g with ended:=s.now }:Fu)=g2:=⟨_,rfl⟩;rw [hs2] at h3 e2 ep2;rw [hs2,hg2] at eg2;clear hg2;go_wp2_with fail
  have HS2:=Lib.hid hs2;clear hs2 e1 eg1 ep1 hP;have HN2:=Lib.hid hn2;clear hn2;have q5:=h3.c8;have q6:=h3.b0 e2
  go_still_tail 8,(by kernel_rfl)
  change wpList _ _ _ _ _ w3.drew;have h4:=h3.drew;have N4:=N3.drew;clear q5 q6;generalize w3.drew=w4 at h4 N4 ⊢;clear h3 N3;refine wpList_mp_del rfl (.tmp 25) (.tmp 29) 58 3 rfl 2 Tryz.underlying3 Tryz.underlying58 _ _ _ rfl (h4.ob .ma).2 b.id rfl wf.2.1 _ rfl ?_;intro w5 m5 g5;obtain ⟨h5,n5⟩:=h4.ma (MpT.del m5) g5;have N5:=N4.trans n5;clear N4 n5 h4 m5 g5;obtain ⟨t1,ht1⟩:∃ z:St,({ s2 with ah:=s2.ah.del b.id }:St)=z:=⟨_,rfl⟩;rw [ht1] at h5;have e3:t1.bx b.id=some b:=by rw [←ht1];exact e2
  have eg3:t1.fu.a b.fn=some g2:=by rw [←ht1];exact eg2
  have ep3:t1.pl.a b.ho=some p1:=by rw [←ht1];exact ep2
  have Ht1:=Lib.hid ht1;clear ht1;go_wp2_with fail
  have q7:=h5.c7;have q8:=h5.b0 e3
  go_still_tail 8,(by kernel_rfl)
  change wpList _ _ _ _ _ w5.drew;have h6:=h5.drew;have N6:=N5.drew;clear q7 q8;generalize w5.drew=w6 at h6 N6 ⊢;clear h5 N5;refine wpList_mp_del rfl (.tmp 33) (.tmp 37) 57 3 rfl 45 Tryz.underlying3 Tryz.underlying57 _ _ _ rfl (h6.ob .mx).2 b.id rfl wf.2.1 _ rfl ?_;intro w7 m7 g7;obtain ⟨h7,n7⟩:=h6.mx (MpT.del m7) g7;have N7:=N6.trans n7;clear N6 n7 h6 m7 g7;obtain ⟨t2,ht2⟩:∃ z:St,({ t1 with mx:=t1.mx.del b.id }:St)=z:=⟨_,rfl⟩;rw [ht2] at h7;have e4:t2.bx b.id=some b:=by rw [←ht2];exact e3
  have eg4:t2.fu.a b.fn=some g2:=by rw [←ht2];exact eg3
  have ep4:t2.pl.a b.ho=some p1:=by rw [←ht2];exact ep3
  have Ht2:=Lib.hid ht2;clear ht2;clear e3 eg3 ep3;go_wp2_with fail
  have q9:=h7.c6;have q10:=h7.b2 e4;have q11:=h7.p0 ep4;have q12:=h7.b0 e4;have q13:=fun y=>(h7.drewN y).lp ep4 wf.2.2.1;have q14:=h7.drew.lp ep4 wf.2.2.1;have q15:=h7.lp ep4 wf.2.2.1
  go_still_tail 16,(by kernel_rfl)
  change wpList _ _ _ _ _ w7.drew;have h8:=h7.drew;have N8:=N7.drew;clear q9 q10 q11 q12 q13 q14 q15;generalize w7.drew=w8 at h8 N8 ⊢;clear h7 N7;refine wpList_mp_del rfl (.tmp 49) (.tmp 53) 57 3 rfl 45 Tryz.underlying3 Tryz.underlying57 _ _ _ rfl ((h8.ob (.pm b.ho)) _ ep4).2 b.id rfl wf.2.1 _ rfl ?_;intro w9 m9 g9;obtain ⟨h9,n9⟩:=Cor.pm h8 ep4 (MpT.del m9) g9;have N9:=N8.trans n9;clear N8 n9 h8 m9 g9;obtain ⟨t3,ht3⟩:∃ z:St,t2.setP b.ho { p1 with bo:=p1.bo.del b.id }=z:=⟨_,rfl⟩;rw [ht3] at h9;have e5:t3.bx b.id=some b:=by rw [←ht3];exact e4
  have eg5:t3.fu.a b.fn=some g2:=by rw [←ht3];exact eg4
  have Ht3:=Lib.hid ht3;clear ht3;clear e4 eg4;go_wp2_with fail
  have q16:=h9.g10 eg5;have q17:=h9.b0 e5
  go_still_tail 8,(by kernel_rfl)
  change wpList _ _ _ _ _ w9.drew;have h10:=h9.drew;have N10:=N9.drew;clear q16 q17;generalize w9.drew=w10 at h10 N10 ⊢;clear h9 N9;refine wpList_mp_del rfl (.tmp 57) (.tmp 61) 57 3 rfl 45 Tryz.underlying3 Tryz.underlying57 _ _ _ rfl ((h10.ob (.fp b.fn)) _ eg5).2 b.id rfl wf.2.1 _ rfl ?_;intro w11 m11 g11;obtain ⟨h11,n11⟩:=Cor.fp h10 eg5 (MpT.del m11) g11;have N11:=N10.trans n11;clear N10 n11 h10 m11 g11;obtain ⟨g3,hg3⟩:∃ g3,({ g2 with pi:=g2.pi.del b.id }:Fu)=g3:=⟨_,rfl⟩;rw [hg3] at h11;obtain ⟨t4,ht4⟩:∃ z:St,t3.setG b.fn g3=z:=⟨_,rfl⟩;rw [ht4] at h11;have e6:t4.bx b.id=some b:=by rw [←ht4];exact e5
  have eg6:t4.fu.a b.fn=some g3:=by rw [←ht4];exact setG_at _ _ _
  have Ht4:=Lib.hid ht4;clear ht4;have HG3:=Lib.hid hg3;clear e5 eg5 hg3;go_wp2_with fail
  have q18:=h11.g11 eg6;have q19:=h11.b0 e6
  go_still_tail 8,(by kernel_rfl)
  change wpList _ _ _ _ _ w11.drew;have h12:=h11.drew;have N12:=N11.drew;clear q18 q19;generalize w11.drew=w12 at h12 N12 ⊢;clear h11 N11;refine wpList_mp_del rfl (.tmp 65) (.tmp 69) 57 3 rfl 45 Tryz.underlying3 Tryz.underlying57 _ _ _ rfl ((h12.ob (.fl b.fn)) _ eg6).2 b.id rfl wf.2.1 _ rfl ?_;intro w13 m13 g13;obtain ⟨h13,n13⟩:=Cor.fl h12 eg6 (MpT.del m13) g13;have N13:=N12.trans n13;clear N12 n13 h12 m13 g13
  have hX:t4.setG b.fn { g3 with lo:=g3.lo.del b.id }=s2.outOf b.id:=by
   rw [←Ht4.out,←HG3.out,setG_setG,←Ht3.out,←Ht2.out,←Ht1.out];simp only [St.outOf,St.B_of e2,St.G_of eg2,St.P_of ep2];rfl
  rw [hX] at h13;clear hX e6 eg6 Ht4 HG3 Ht3 Ht2 Ht1 ep4;obtain ⟨t5,ht5⟩:∃ z:St,s2.outOf b.id=z:=⟨_,rfl⟩;rw [ht5] at h13;have e7:t5.bx b.id=some b:=by rw [←ht5];exact e2
  have hn7:t5.now=s2.now:=by rw [←ht5];exact rfl
  have Ht5:=Lib.hid ht5;clear ht5;have HN7:=Lib.hid hn7;clear hn7;have q20:=h13.c0;go_wp2_with fail
  refine (k_bkill h13 e7 rfl t5.now).mono ?_;rintro e13 w14 ⟨rfl,o14,h14,n14⟩;have N14:=N13.trans n14;clear q20;clear N13 n14 h13;have hk1:=nx_id 3 b t5.now;have hk2:=nx_ho 3 b t5.now;have hk3:=nx_me 3 b t5.now;obtain ⟨bk,hbk⟩:∃ bk,(nx 3 b t5.now).1=bk:=⟨_,rfl⟩;rw [hbk] at hk1 hk2 hk3;rw [hbk] at h14;obtain ⟨t6,ht6⟩:∃ z:St,t5.setB bk=z:=⟨_,rfl⟩;rw [ht6] at h14;have e8:t6.bx b.id=some bk:=by rw [←ht6];exact (by have:=setB_at t5 bk;rw [hk1] at this;exact this)
  have Ht6:=Lib.hid ht6;clear ht6;have HK:=Lib.hid hbk;have HK2:=Lib.hid hk2;have HK3:=Lib.hid hk3;clear hbk hk1 hk2 hk3;go_wp2_with fail
  have q21:=h14.c5;have q22:=h14.b2 e8;have q23:=h14.b3 e8
  go_still_tail 12,(by kernel_rfl)
  change wpList _ _ _ _ _ w14.drew;have h15:=h14.drew;have N15:=N14.drew;clear q21 q22 q23;generalize w14.drew=w15 at h15 N15 ⊢;clear h14 N14;go_wp2_with fail
  refine (k_hgive h15 bk.ho bk.me).mono ?_;rintro e15 w16 ⟨rfl,o16,h16,n16⟩;have N16:=N15.trans n16;clear N15 n16 h15;obtain ⟨t7,ht7⟩:∃ z:St,({ t6 with H:=gvH t6.H bk.ho bk.me }:St)=z:=⟨_,rfl⟩;rw [ht7] at h16;have e9:t7.bx b.id=some bk:=by rw [←ht7];exact e8
  have Ht7:=Lib.hid ht7;clear ht7;have q24:=h16.b2 e9;go_wp2_with fail
  refine (c_leave h16 (by rw [HK2.out];exact wf.2.2.1)).mono ?_
  rintro e16 w17 ⟨rfl,o17,h17,n17⟩;have N17:=N16.trans n17;clear q24;clear N16 n17 h16
  go_wp2
  have hfin:s.gone b.id=t7.leave bk.ho:=by
   simp only [St.gone,St.B_of e,hr,if_true,if_false,Bool.false_eq_true];rw [HS2.out,Ht5.out,←Ht7.out,←Ht6.out];unfold St.die;rw [St.B_of e7,HK.out,HK2.out,HK3.out];rfl
  go_end0
  exact ⟨rfl,_,by rw [hfin];exact h17,N17⟩
 | false =>
  obtain ⟨s2,hs2⟩:∃ s2,s.hold b.id=s2:=⟨_,rfl⟩;obtain ⟨g2,hg2⟩:∃ g2,g=g2:=⟨_,rfl⟩;have e2:=e1;have eg2:=eg1;have ep2:=ep1;rw [hs2] at h2 e2 ep2;rw [hs2,hg2] at eg2;have hn2:s2.now=s.now:=by rw [←hs2];rfl
  clear hg2;go_wp2_with fail
  have HS2:=Lib.hid hs2;clear hs2 e1 eg1 ep1 hP;have HN2:=Lib.hid hn2;clear hn2;have q25:=h2.c8;have q26:=h2.b0 e2
  go_still_tail 8,(by kernel_rfl)
  change wpList _ _ _ _ _ w2.drew;have h3:=h2.drew;have N3:=N2.drew;clear q25 q26;generalize w2.drew=w3 at h3 N3 ⊢;clear h2 N2;refine wpList_mp_del rfl (.tmp 25) (.tmp 29) 58 3 rfl 2 Tryz.underlying3 Tryz.underlying58 _ _ _ rfl (h3.ob .ma).2 b.id rfl wf.2.1 _ rfl ?_;intro w4 m4 g4;obtain ⟨h4,n4⟩:=h3.ma (MpT.del m4) g4;have N4:=N3.trans n4;clear N3 n4 h3 m4 g4;obtain ⟨t1,ht1⟩:∃ z:St,({ s2 with ah:=s2.ah.del b.id }:St)=z:=⟨_,rfl⟩;rw [ht1] at h4;have e3:t1.bx b.id=some b:=by rw [←ht1];exact e2
  have eg3:t1.fu.a b.fn=some g2:=by rw [←ht1];exact eg2
  have ep3:t1.pl.a b.ho=some p1:=by rw [←ht1];exact ep2
  have Ht1:=Lib.hid ht1;clear ht1;go_wp2_with fail
  have q27:=h4.c7;have q28:=h4.b0 e3
  go_still_tail 8,(by kernel_rfl)
  change wpList _ _ _ _ _ w4.drew;have h5:=h4.drew;have N5:=N4.drew;clear q27 q28;generalize w4.drew=w5 at h5 N5 ⊢;clear h4 N4;refine wpList_mp_del rfl (.tmp 33) (.tmp 37) 57 3 rfl 45 Tryz.underlying3 Tryz.underlying57 _ _ _ rfl (h5.ob .mx).2 b.id rfl wf.2.1 _ rfl ?_;intro w6 m6 g6;obtain ⟨h6,n6⟩:=h5.mx (MpT.del m6) g6;have N6:=N5.trans n6;clear N5 n6 h5 m6 g6;obtain ⟨t2,ht2⟩:∃ z:St,({ t1 with mx:=t1.mx.del b.id }:St)=z:=⟨_,rfl⟩;rw [ht2] at h6;have e4:t2.bx b.id=some b:=by rw [←ht2];exact e3
  have eg4:t2.fu.a b.fn=some g2:=by rw [←ht2];exact eg3
  have ep4:t2.pl.a b.ho=some p1:=by rw [←ht2];exact ep3
  have Ht2:=Lib.hid ht2;clear ht2;clear e3 eg3 ep3;go_wp2_with fail
  have q29:=h6.c6;have q30:=h6.b2 e4;have q31:=h6.p0 ep4;have q32:=h6.b0 e4;have q33:=fun y=>(h6.drewN y).lp ep4 wf.2.2.1;have q34:=h6.drew.lp ep4 wf.2.2.1;have q35:=h6.lp ep4 wf.2.2.1
  go_still_tail 16,(by kernel_rfl)
  change wpList _ _ _ _ _ w6.drew;have h7:=h6.drew;have N7:=N6.drew;clear q29 q30 q31 q32 q33 q34 q35;generalize w6.drew=w7 at h7 N7 ⊢;clear h6 N6;refine wpList_mp_del rfl (.tmp 49) (.tmp 53) 57 3 rfl 45 Tryz.underlying3 Tryz.underlying57 _ _ _ rfl ((h7.ob (.pm b.ho)) _ ep4).2 b.id rfl wf.2.1 _ rfl ?_;intro w8 m8 g8;obtain ⟨h8,n8⟩:=Cor.pm h7 ep4 (MpT.del m8) g8;have N8:=N7.trans n8;clear N7 n8 h7 m8 g8;obtain ⟨t3,ht3⟩:∃ z:St,t2.setP b.ho { p1 with bo:=p1.bo.del b.id }=z:=⟨_,rfl⟩;rw [ht3] at h8;have e5:t3.bx b.id=some b:=by rw [←ht3];exact e4
  have eg5:t3.fu.a b.fn=some g2:=by rw [←ht3];exact eg4
  have Ht3:=Lib.hid ht3;clear ht3;clear e4 eg4;go_wp2_with fail
  have q36:=h8.g10 eg5;have q37:=h8.b0 e5
  go_still_tail 8,(by kernel_rfl)
  change wpList _ _ _ _ _ w8.drew;have h9:=h8.drew;have N9:=N8.drew;clear q36 q37;generalize w8.drew=w9 at h9 N9 ⊢;clear h8 N8;refine wpList_mp_del rfl (.tmp 57) (.tmp 61) 57 3 rfl 45 Tryz.underlying3 Tryz.underlying57 _ _ _ rfl ((h9.ob (.fp b.fn)) _ eg5).2 b.id rfl wf.2.1 _ rfl ?_;intro w10 m10 g10;obtain ⟨h10,n10⟩:=Cor.fp h9 eg5 (MpT.del m10) g10;have N10:=N9.trans n10;clear N9 n10 h9 m10 g10;obtain ⟨g3,hg3⟩:∃ g3,({ g2 with pi:=g2.pi.del b.id }:Fu)=g3:=⟨_,rfl⟩;rw [hg3] at h10;obtain ⟨t4,ht4⟩:∃ z:St,t3.setG b.fn g3=z:=⟨_,rfl⟩;rw [ht4] at h10;have e6:t4.bx b.id=some b:=by rw [←ht4];exact e5
  have eg6:t4.fu.a b.fn=some g3:=by rw [←ht4];exact setG_at _ _ _
  have Ht4:=Lib.hid ht4;clear ht4;have HG3:=Lib.hid hg3;clear e5 eg5 hg3;go_wp2_with fail
  have q38:=h10.g11 eg6;have q39:=h10.b0 e6
  go_still_tail 8,(by kernel_rfl)
  change wpList _ _ _ _ _ w10.drew;have h11:=h10.drew;have N11:=N10.drew;clear q38 q39;generalize w10.drew=w11 at h11 N11 ⊢;clear h10 N10;refine wpList_mp_del rfl (.tmp 65) (.tmp 69) 57 3 rfl 45 Tryz.underlying3 Tryz.underlying57 _ _ _ rfl ((h11.ob (.fl b.fn)) _ eg6).2 b.id rfl wf.2.1 _ rfl ?_;intro w12 m12 g12;obtain ⟨h12,n12⟩:=Cor.fl h11 eg6 (MpT.del m12) g12;have N12:=N11.trans n12;clear N11 n12 h11 m12 g12
  have hX:t4.setG b.fn { g3 with lo:=g3.lo.del b.id }=s2.outOf b.id:=by
   rw [←Ht4.out,←HG3.out,setG_setG,←Ht3.out,←Ht2.out,←Ht1.out];simp only [St.outOf,St.B_of e2,St.G_of eg2,St.P_of ep2];rfl
  rw [hX] at h12;clear hX e6 eg6 Ht4 HG3 Ht3 Ht2 Ht1 ep4;obtain ⟨t5,ht5⟩:∃ z:St,s2.outOf b.id=z:=⟨_,rfl⟩;rw [ht5] at h12;have e7:t5.bx b.id=some b:=by rw [←ht5];exact e2
  have hn7:t5.now=s2.now:=by rw [←ht5];exact rfl
  have Ht5:=Lib.hid ht5;clear ht5;have HN7:=Lib.hid hn7;clear hn7;have q40:=h12.c0;go_wp2_with fail
  refine (k_bkill h12 e7 rfl t5.now).mono ?_;rintro e12 w13 ⟨rfl,o13,h13,n13⟩;have N13:=N12.trans n13;clear q40;clear N12 n13 h12;have hk1:=nx_id 3 b t5.now;have hk2:=nx_ho 3 b t5.now;have hk3:=nx_me 3 b t5.now;obtain ⟨bk,hbk⟩:∃ bk,(nx 3 b t5.now).1=bk:=⟨_,rfl⟩;rw [hbk] at hk1 hk2 hk3;rw [hbk] at h13;obtain ⟨t6,ht6⟩:∃ z:St,t5.setB bk=z:=⟨_,rfl⟩;rw [ht6] at h13;have e8:t6.bx b.id=some bk:=by rw [←ht6];exact (by have:=setB_at t5 bk;rw [hk1] at this;exact this)
  have Ht6:=Lib.hid ht6;clear ht6;have HK:=Lib.hid hbk;have HK2:=Lib.hid hk2;have HK3:=Lib.hid hk3;clear hbk hk1 hk2 hk3;go_wp2_with fail
  have q41:=h13.c5;have q42:=h13.b2 e8;have q43:=h13.b3 e8
  go_still_tail 12,(by kernel_rfl)
  change wpList _ _ _ _ _ w13.drew;have h14:=h13.drew;have N14:=N13.drew;clear q41 q42 q43;generalize w13.drew=w14 at h14 N14 ⊢;clear h13 N13;go_wp2_with fail
  refine (k_hgive h14 bk.ho bk.me).mono ?_;rintro e14 w15 ⟨rfl,o15,h15,n15⟩;have N15:=N14.trans n15;clear N14 n15 h14;obtain ⟨t7,ht7⟩:∃ z:St,({ t6 with H:=gvH t6.H bk.ho bk.me }:St)=z:=⟨_,rfl⟩;rw [ht7] at h15;have e9:t7.bx b.id=some bk:=by rw [←ht7];exact e8
  have Ht7:=Lib.hid ht7;clear ht7;have q44:=h15.b2 e9;go_wp2_with fail
  refine (c_leave h15 (by rw [HK2.out];exact wf.2.2.1)).mono ?_
  rintro e15 w16 ⟨rfl,o16,h16,n16⟩;have N16:=N15.trans n16;clear q44;clear N15 n16 h15
  go_wp2
  have hfin:s.gone b.id=t7.leave bk.ho:=by
   simp only [St.gone,St.B_of e,hr,if_true,if_false,Bool.false_eq_true];rw [HS2.out,Ht5.out,←Ht7.out,←Ht6.out];unfold St.die;rw [St.B_of e7,HK.out,HK2.out,HK3.out];rfl
  go_end0
  exact ⟨rfl,_,by rw [hfin];exact h16,N16⟩
theorem leave_bx (s:St) (h:Int):(s.leave h).bx=s.bx:=by unfold St.leave;split <;> rfl
theorem leave_out (s:St) (h:Int):(s.leave h).out=s.out:=by unfold St.leave;split <;> rfl
theorem gone_at {s:St} {i:Int} {b:Bo} (e:s.bx i=some b) (hi:b.id=i):(s.gone i).bx i=some (nx 3 b s.now).1:=by
 subst hi;unfold St.gone;rw [leave_bx];unfold St.die
 have h2:∀ s2:St,s2.bx b.id=some b→s2.now=s.now→({ (s2.outOf b.id).setB (nx 3 ((s2.outOf b.id).B b.id) (s2.outOf b.id).now).1 with H:=gvH (s2.outOf b.id).H ((s2.outOf b.id).B b.id).ho ((s2.outOf b.id).B b.id).me }:St).bx b.id=some (nx 3 b s.now).1:=by
  intro s2 h1 h3;rw [show (s2.outOf b.id).B b.id=b from St.B_of h1,show (s2.outOf b.id).now=s.now from h3]
  have:=setB_at (s2.outOf b.id) (nx 3 b s.now).1
  rw [nx_id] at this;exact this
 rw [St.B_of e]
 split
 ·exact h2 _ e rfl
 ·exact h2 _ e rfl
theorem gone_out (s:St) (i:Int):(s.gone i).out=s.out:=by
 unfold St.gone;rw [leave_out]
 split <;> rfl
theorem c_kill {w:World} {own:Nat→Option Tag} {y:Lay} {s:St} (h:Cor w own y s) (B:Bd s) {i:Int} {b:Bo} (e:s.bx i=some b) {p:Pl} (ep:s.pl.a b.ho=some p) {g:Fu} (eg:s.fu.a b.fn=some g):Calls Tryz.prog 86 #[ptr y.c,ptr (y.bx i)] w fun e w'=>e=.returned (.tuple #[])∧To w own y (s.kill i) w':=by
 have N0:=Nx.refl w own;have h0:=h;clear h
 go_enter Tryz.func86,Tryz.ntmps86
 go_wp2_with fail
 refine (c_gone h0 B e ep eg).mono ?_;rintro e0 w1 ⟨rfl,o1,h1,n1⟩;have N1:=N0.trans n1;clear N0 n1 h0;go_wp2_with fail
 have e1:(s.gone i).bx i=some (nx 3 b s.now).1:=gone_at e (B.bx _ _ e).1;refine (c_give h1 (by rw [gone_out];exact B.out) false e1).mono ?_
 rintro e1 w2 ⟨rfl,o2,h2,n2⟩;have N2:=N1.trans n2
 go_wp2
 have hfin:s.kill i=(s.gone i).give false (nx 3 b s.now).1:=by
  unfold St.kill St.give;rw [St.B_of e,nx_id,nx_fn,nx_ho]
 go_end0
 exact ⟨rfl,_,by rw [hfin];exact h2,N2⟩
end Go.Proofs.YthdengocipfgiaaGreat.W.C
