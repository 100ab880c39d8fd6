import Derived.Test.YthdengocipfgiaaGreatCbE
/- A part of what core's laws stand on. -/
set_option linter.unusedVariables false
set_option linter.unusedSimpArgs false
set_option maxRecDepth 100000
set_option maxHeartbeats 3200000
namespace Go.Proofs.YthdengocipfgiaaGreat.W.C
open Go.RowKit Go.Proofs.YthdengocipfgiaaGreat.W
theorem Fresh.uniq {s:St} {f i j:Int} (h:Fresh s f i) (k:Fresh s f j):i=j:=by
 have a:=h.2.2 j k.1 k.2.1;have b:=k.2.2 i h.1 h.2.1;omega
theorem fresh_is {s:St} {f i:Int} (h:Fresh s f i):s.fresh f=some i:=by
 unfold St.fresh;have hx:∃ i,Fresh s f i:=⟨i,h⟩;rw [dif_pos hx];exact congrArg some (Fresh.uniq hx.choose_spec h)
theorem fresh_no {s:St} {f:Int} (h:∀ i,¬ Fresh s f i):s.fresh f=none:=by
 unfold St.fresh;rw [dif_neg (fun ⟨i,q⟩=>h i q)]
def Bst (s:St) (T:Int→Prop):Option Int→Prop
 | none=>∀ j,T j→(s.B j).q.idle=false
 | some i=>T i∧(s.B i).q.idle=true∧∀ j,T j→(s.B j).q.idle=true→(s.B j).t<(s.B i).t∨((s.B j).t=(s.B i).t∧i≤j)
theorem Bst.ext {s:St} {T T':Int→Prop} {o:Option Int} (h:Bst s T o) (e:∀ j,T' j↔T j):Bst s T' o:=by
 cases o with
 | none=>exact fun j q=>h j ((e j).1 q)
 | some i=>exact ⟨(e i).2 h.1,h.2.1,fun j q=>h.2.2 j ((e j).1 q)⟩
theorem Bst.skip {s:St} {T:Int→Prop} {o:Option Int} (h:Bst s T o) {x:Int} (hx:(s.B x).q.idle=false):Bst s (fun j=>T j∨j=x) o:=by
 cases o with
 | none=>exact fun j q=>q.elim (h j) (fun e=>by rw [e];exact hx)
 | some i=>exact ⟨Or.inl h.1,h.2.1,fun j q k=>q.elim (fun q=>h.2.2 j q k) (fun e=>by rw [e,hx] at k;cases k)⟩
theorem Bst.first {s:St} {T:Int→Prop} (h:Bst s T none) {x:Int} (hx:(s.B x).q.idle=true):Bst s (fun j=>T j∨j=x) (some x) :=
 ⟨Or.inr rfl,hx,fun j q k=>q.elim (fun q=>by rw [h j q] at k;cases k) (fun e=>by rw [e];right;exact ⟨rfl,by omega⟩)⟩
def frs (b c:Bo):Bool:=if b.t=c.t then decide (b.id<c.id) else decide (b.t > c.t)
theorem Bst.better {s:St} {T:Int→Prop} {i:Int} (h:Bst s T (some i)) {x:Int} (hx:(s.B x).q.idle=true) (ex:(s.B x).id=x) (ei:(s.B i).id=i) (k:frs (s.B x) (s.B i)=true):Bst s (fun j=>T j∨j=x) (some x):=by
 unfold frs at k;rw [ex,ei] at k;refine ⟨Or.inr rfl,hx,fun j q hj=>?_⟩
 rcases q with q | q
 ·have:=h.2.2 j q hj
  split at k
  ·simp at k;omega
  ·simp at k;omega
 ·rw [q];right;exact ⟨rfl,by omega⟩
theorem Bst.worse {s:St} {T:Int→Prop} {i:Int} (h:Bst s T (some i)) {x:Int} (ex:(s.B x).id=x) (ei:(s.B i).id=i) (k:frs (s.B x) (s.B i)=false):Bst s (fun j=>T j∨j=x) (some i):=by
 unfold frs at k;rw [ex,ei] at k;refine ⟨Or.inl h.1,h.2.1,fun j q hj=>?_⟩
 rcases q with q | q
 ·exact h.2.2 j q hj
 ·rw [q]
  split at k
  ·simp at k;omega
  ·simp at k;omega
theorem Bst.fresh {s:St} {f:Int} {o:Option Int} (h:Bst s (fun j=>((s.G f).pi.a j).isSome=true∨((s.G f).lo.a j).isSome=true) o):s.fresh f=o:=by
 cases o with
 | none=>exact fresh_no (fun i q=>by have:=h i q.1;rw [q.2.1] at this;cases this)
 | some i=>exact fresh_is ⟨h.1,h.2.1,h.2.2⟩
def oP (y:Lay):Option Int→Value
 | none=>.pointer none
 | some i=>ptr (y.bx i)
theorem c_freshest {w:World} {own:Nat→Option Tag} {y:Lay} {s:St} (h:Cor w own y s) (B:Bd s) {f:Int} {gf:Fu} (eg:s.fu.a f=some gf) (hbx:∀ i,((gf.pi.a i).isSome=true∨(gf.lo.a i).isSome=true)→∃ b,s.bx i=some b) :
  Calls Tryz.prog 42 #[ptr (y.fb f)] w fun e w'=>e=.returned (.tuple #[oP y (s.fresh f),.bool (s.fresh f).isSome])∧Below w.heap.size w w':=by
 obtain ⟨T,hT⟩:∃ T:Int→Prop,T=fun j=>(gf.pi.a j).isSome=true∨(gf.lo.a j).isSome=true:=⟨_,rfl⟩;have HF:∀ o,Bst s T o→s.fresh f=o:=fun o q=>Bst.fresh (by rw [St.G_of eg];rw [hT] at q;exact q)
 have HFF:=Lib.hid HF;have HT:=Lib.hid (fun j=>congrFun hT j)
 have HBX:Hid (∀ i,T i→∃ b,s.bx i=some b∧b.id=i∧s.B i=b):=Lib.hid (fun i q=>by
  rw [hT] at q;obtain ⟨b,hb⟩:=hbx i q;exact ⟨b,hb,(B.bx i b hb).1,St.B_of hb⟩)
 have hmp:MpT w (y.fp f) gf.pi (fun i _=>ptr (y.bx i)):=((h.ob (.fp f)) gf eg).2;have hml:MpT w (y.fl f) gf.lo (fun i _=>ptr (y.bx i)):=((h.ob (.fl f)) gf eg).2;have q10:=h.g10 eg;have q11:=h.g11 eg;obtain ⟨fr,hfr⟩:∃ o,s.fresh f=o:=⟨_,rfl⟩;have HFR:=Lib.hid hfr;rw [hfr];have HBD:=Lib.hid B;clear hfr hbx HF hT B;have H0:=Lib.hid h;clear h
 go_enter Tryz.func42,Tryz.ntmps42
 go_upto_region 2 with (fail)
 go_region
 go_upto_region 3 with (fail)
 have b1:Below w.heap.size w (w.alloc (.cells #[.map (some (y.fp f)),.map (some (y.fl f))] 57)).drew:=below_drewN ((Below.refl _ _).alloc (Nat.le_refl _) _) 1;have c0:(w.alloc (.cells #[.map (some (y.fp f)),.map (some (y.fl f))] 57)).drew.cell? ⟨w.heap.size,0,none⟩=some (.map (some (y.fp f))):=cell_new_drew _ _ _ 0 _ rfl;have c1:(w.alloc (.cells #[.map (some (y.fp f)),.map (some (y.fl f))] 57)).drew.cell? ⟨w.heap.size,1,none⟩=some (.map (some (y.fl f))):=cell_new_drew _ _ _ 1 _ rfl;have hp1:=hmp.kept (S:=fun _=>False) (Only.of_below b1) (fun q=>q);have hl1:=hml.kept (S:=fun _=>False) (Only.of_below b1) (fun q=>q);have hpl:=hmp.lt;have hll:=hml.lt;clear hmp hml q10 q11;generalize (w.alloc (.cells #[.map (some (y.fp f)),.map (some (y.fl f))] 57)).drew=w1 at b1 c0 c1 hp1 hl1 ⊢;obtain ⟨gs,hgs⟩:∃ gs,w.heap.size=gs:=⟨_,rfl⟩;rw [hgs] at c0 c1;have HW:=Lib.hid (show w.heap.size≤w1.heap.size from b1.size)
 have HB1:=Lib.hid b1;have hgs1:gs<w1.heap.size:=cell_lt c0;have HP:=Lib.hid hp1;have HL:=Lib.hid hl1;have HC0:=Lib.hid c0;have HC1:=Lib.hid c1;rw [hgs];clear b1 hgs c0 c1 hp1 hl1
 go_loopg [4,19] 2 (fun gk v4 v19 wr=>∃ (k:Nat) (o:Option Int),v4=oP y o∧v19=.int .i64 (k:Int)∧k+gk=2∧Hid (Bst s (fun j=>(0<k∧(gf.pi.a j).isSome=true)∨(1<k∧(gf.lo.a j).isSome=true)) o)∧Below w1.heap.size w1 wr)
 case atStart=>exact ⟨0,none,rfl,rfl,rfl,Lib.hid (fun j q=>by omega),Below.refl _ _⟩
 case round =>
  obtain ⟨k,o,rfl,rfl,hik,HB,bz⟩:=hrel;obtain q | q | q:k=0∨k=1∨k=2:=by omega
  ·subst q
   obtain ⟨A,hA⟩:∃ A:Int→Bool,A=fun i=>(gf.pi.a i).isSome:=⟨_,rfl⟩;have HA:=Lib.hid (fun i=>congrFun hA i);obtain ⟨M,hM⟩:∃ M:Int→Option Value,M=fun i=>(gf.pi.a i).map (fun _=>ptr (y.bx i)):=⟨_,rfl⟩;obtain ⟨n,hn⟩:∃ n,gf.pi.n=n:=⟨_,rfl⟩;have hm:Mp Tryz.prog 3 wr (y.fp f) M n:=by rw [hM,←hn];exact HP.out.kept (S:=fun _=>False) (Only.of_below bz) (fun q=>q)
   have HM:Hid (∀ i,M i=if A i=true then some (ptr (y.bx i)) else none):=Lib.hid (fun i=>by rw [hM];exact wpMT (e:=fun i=>ptr (y.bx i)) A HA.out i)
   have HAT:Hid (∀ i,A i=true→T i):=Lib.hid (fun i q=>by rw [HT.out i];rw [HA.out i] at q;exact Or.inl q)
   have HAW:Hid (∀ i,A i=true→(KL i).wf=true):=Lib.hid (fun i q=>by
    obtain ⟨b,hb,_⟩:=HBX.out i (HAT.out i q);have b1:=HBD.out.bx i b hb;have b2:=HBD.out.last;exact wfK (by omega) (by omega))
   obtain ⟨T0,hT0⟩:∃ T0:Int→Prop,T0=fun j=>(0<0∧(gf.pi.a j).isSome=true)∨(1<0∧(gf.lo.a j).isSome=true):=⟨_,rfl⟩;rw [←hT0] at HB;have HT0:=Lib.hid (fun j=>congrFun hT0 j);have HTT:Hid (∀ j,T0 j→T j):=Lib.hid (fun j q=>by rw [HT.out];rw [hT0] at q;rcases q with q | q;exact Or.inl q.2;exact Or.inr q.2)
   clear hT0 hA hM hn;have cc:wr.cell? ⟨gs,0,none⟩=some (.map (some (y.fp f))):=by rw [World.cell?_of_block (bz.block _ hgs1)];exact HC0.out
   have hmb:y.fp f<w1.heap.size:=by have:=HW.out;omega
   go_upto_region 6 with (first
    | (at_range;refine wpList_rngi rfl (.tmp 23) 57 rfl 3 45 Tryz.underlying3 Tryz.underlying57 _ _ n rfl hm ?_;intro w4 hrg4 hg4))
   have b4:Below w1.heap.size w1 w4:=bz.trans ((grown_below hg4).mono bz.size);obtain ⟨rb,hrb⟩:∃ rb,wr.heap.size=rb:=⟨_,rfl⟩;have HNE:=Lib.hid (show w1.heap.size≤rb by have:=bz.size;omega)
   rw [hrb] at hrg4;rw [hrb];obtain ⟨mb,hmbe⟩:∃ mb,y.fp f=mb:=⟨_,rfl⟩;rw [hmbe] at hrg4;rw [hmbe];have HMB:=Lib.hid hmbe;clear hrb hm hg4 bz cc hmb hmbe
   go_frame
   go_loopg [4] n (fun gk v4 wr=>∃ (left:Int→Bool) (o:Option Int),v4=oP y o∧Ri Tryz.prog 3 wr mb rb M n left gk∧Hid (Bst s (fun j=>T0 j∨(A j=true∧left j=false)) o)∧Hid (∀ i,o=some i→T i)∧Hid (∀ j,left j=true→A j=true)∧Below w1.heap.size w1 wr)
   case atStart =>
    have hst:∀ j,(M j).isSome=A j:=fun j=>by rw [HM.out j];cases A j <;> rfl
    refine ⟨_,o,rfl,hrg4,Lib.hid (HB.out.ext fun j=>⟨fun q=>q.elim id (fun q=>by have h1:=q.2;simp only [hst,q.1] at h1;cases h1),Or.inl⟩),Lib.hid (fun i q=>?_),Lib.hid (fun j q=>by simp only [hst] at q;exact q),b4⟩
    subst q;exact HTT.out i HB.out.1
   case round =>
    clear hrg4 b4;obtain ⟨left,o,rfl,hrg,HO,HOT,HLF,bz⟩:=hrel;go_wp2_with (at_next;refine wpList_nxti rfl (.tmp 24) rfl 3 Tryz.underlying3 mb rb M n left gk rfl hrg ?_ ?_)
    ·intro hdone
     have HO2:Hid (Bst s (fun j=>(0<1∧(gf.pi.a j).isSome=true)∨(1<1∧(gf.lo.a j).isSome=true)) o):=Lib.hid (HO.out.ext fun j=>by
      rw [HT0.out j];have ha:=HA.out j;have hd:A j=true→left j=false:=fun q=>hdone j (HAW.out j q);rw [ha] at hd ⊢;simp;exact hd)
     have hmbe:=HMB.out;clear hrg HMB;subst hmbe;go_wp2_with fail
     go_roundg 1
     case measure=>omega
     case rel=>exact ⟨1,o,rfl,rfl,rfl,HO2,bz⟩
    ·intro x v w5 g1 hg1 hwx hlx hMx hrg5 hg5 hen
     have hAx:A x=true:=HLF.out x hlx;have hv:v=ptr (y.bx x):=by rw [HM.out x,if_pos hAx] at hMx;injection hMx with hMx;exact hMx.symm
     subst hv;have b5:Below w1.heap.size w1 w5:=bz.trans ⟨hg5.os,hg5.tape,hg5.output,hg5.size,fun j hj=>hg5.block j (by have:=bz.size;omega) (by have:=HNE.out;simp;omega)⟩
     have hc5:=H0.out.below (HB1.out.trans (b5.mono HW.out));obtain ⟨b,hb,hbi,hBb⟩:=HBX.out x (HAT.out x hAx);have ki:=quiet_eq (k_idle hc5 hb);have HG1:=Lib.hid hg1;have HAX:=Lib.hid hAx;have HLF':Hid (∀ j,(left j && !(j == x))=true→A j=true):=Lib.hid (fun j q=>by simp at q;exact HLF.out j q.1)
     have hTx:∀ j,(T0 j∨(A j=true∧(left j && !(j == x))=false))↔((T0 j∨(A j=true∧left j=false))∨j=x):=fun j=>by
      by_cases e:j=x
      ·subst e;simp [HAX.out]
      ·simp [e]
     have HTX:=Lib.hid hTx;have HXT:=Lib.hid (HAT.out x hAx);clear hTx hg1 hAx hwx hlx hMx hg5 hrg bz
     cases hid:b.q.idle with
     | false =>
      rw [hid] at ki;have KI:=Lib.hid ki;have HN:Hid (Bst s (fun j=>T0 j∨(A j=true∧(left j && !(j == x))=false)) o):=Lib.hid ((HO.out.skip (x:=x) (by rw [hBb];exact hid)).ext HTX.out)
      clear ki hid hb hbi hBb hc5;go_wp2_with (go_at_call 62;with_reducible refine KI.out.mono ?_;rintro e w' ⟨rfl,rfl⟩)
      go_roundg g1
      case measure=>exact HG1.out
      case rel=>exact ⟨_,o,rfl,hrg5,HN,HOT,HLF',b5⟩
     | true =>
      rw [hid] at ki;have KI:=Lib.hid ki
      cases o with
      | none =>
       have HN:Hid (Bst s (fun j=>T0 j∨(A j=true∧(left j && !(j == x))=false)) (some x)):=Lib.hid ((HO.out.first (x:=x) (by rw [hBb];exact hid)).ext HTX.out)
       clear ki hid hb hbi hBb hc5;simp only [oP];go_wp2_with (go_at_call 62;with_reducible refine KI.out.mono ?_;rintro e w' ⟨rfl,rfl⟩)
       go_roundg g1
       case measure=>exact HG1.out
       case rel=>exact ⟨_,some x,rfl,hrg5,HN,Lib.hid (fun i q=>by injection q with q;subst q;exact HXT.out),HLF',b5⟩
      | some i =>
       obtain ⟨c,hc,hci,hBc⟩:=HBX.out i (HOT.out i rfl)
       have kf:Calls Tryz.prog 63 #[ptr (y.bx x),ptr (y.bx i)] w5 fun e w'=>e=.returned (.bool (frs (s.B x) (s.B i)))∧∃ n,w'=w5.drewN n:=by
        rw [hBb,hBc];exact c_fresher w5 (y.bx x) (y.bx i) b c ((hc5.ob (.bx x)) b hb).2 ((hc5.ob (.bx i)) c hc).2
       have HXI:Hid ((s.B x).id=x∧(s.B i).id=i∧(s.B x).q.idle=true):=Lib.hid ⟨by rw [hBb];exact hbi,by rw [hBc];exact hci,by rw [hBb];exact hid⟩
       cases hfs:frs (s.B x) (s.B i) with
       | false =>
        rw [hfs] at kf;have KF:=Lib.hid kf;have HN:Hid (Bst s (fun j=>T0 j∨(A j=true∧(left j && !(j == x))=false)) (some i)):=Lib.hid ((HO.out.worse HXI.out.1 HXI.out.2.1 hfs).ext HTX.out);clear ki kf hid hb hbi hBb hc hci hBc hc5 hfs;simp only [oP]
        go_wp2_with (first
         | (go_at_call 62;with_reducible refine KI.out.mono ?_;rintro e w' ⟨rfl,rfl⟩)
         | (go_at_call 63;with_reducible refine KF.out.mono ?_;rintro e w' ⟨rfl,nf,rfl⟩))
        go_roundg g1
        case measure=>exact HG1.out
        case rel=>exact ⟨_,some i,rfl,hrg5,HN,HOT,HLF',below_drewN b5 _⟩
       | true =>
        rw [hfs] at kf;have KF:=Lib.hid kf;have HN:Hid (Bst s (fun j=>T0 j∨(A j=true∧(left j && !(j == x))=false)) (some x)):=Lib.hid ((HO.out.better HXI.out.2.2 HXI.out.1 HXI.out.2.1 hfs).ext HTX.out);clear ki kf hid hb hbi hBb hc hci hBc hc5 hfs;simp only [oP]
        go_wp2_with (first
         | (go_at_call 62;with_reducible refine KI.out.mono ?_;rintro e w' ⟨rfl,rfl⟩)
         | (go_at_call 63;with_reducible refine KF.out.mono ?_;rintro e w' ⟨rfl,nf,rfl⟩))
        go_roundg g1
        case measure=>exact HG1.out
        case rel=>exact ⟨_,some x,rfl,hrg5,HN,Lib.hid (fun i q=>by injection q with q;subst q;exact HXT.out),HLF',below_drewN b5 _⟩
  ·subst q
   obtain ⟨A,hA⟩:∃ A:Int→Bool,A=fun i=>(gf.lo.a i).isSome:=⟨_,rfl⟩;have HA:=Lib.hid (fun i=>congrFun hA i);obtain ⟨M,hM⟩:∃ M:Int→Option Value,M=fun i=>(gf.lo.a i).map (fun _=>ptr (y.bx i)):=⟨_,rfl⟩;obtain ⟨n,hn⟩:∃ n,gf.lo.n=n:=⟨_,rfl⟩;have hm:Mp Tryz.prog 3 wr (y.fl f) M n:=by rw [hM,←hn];exact HL.out.kept (S:=fun _=>False) (Only.of_below bz) (fun q=>q)
   have HM:Hid (∀ i,M i=if A i=true then some (ptr (y.bx i)) else none):=Lib.hid (fun i=>by rw [hM];exact wpMT (e:=fun i=>ptr (y.bx i)) A HA.out i)
   have HAT:Hid (∀ i,A i=true→T i):=Lib.hid (fun i q=>by rw [HT.out i];rw [HA.out i] at q;exact Or.inr q)
   have HAW:Hid (∀ i,A i=true→(KL i).wf=true):=Lib.hid (fun i q=>by
    obtain ⟨b,hb,_⟩:=HBX.out i (HAT.out i q);have b1:=HBD.out.bx i b hb;have b2:=HBD.out.last;exact wfK (by omega) (by omega))
   obtain ⟨T0,hT0⟩:∃ T0:Int→Prop,T0=fun j=>(0<1∧(gf.pi.a j).isSome=true)∨(1<1∧(gf.lo.a j).isSome=true):=⟨_,rfl⟩;rw [←hT0] at HB;have HT0:=Lib.hid (fun j=>congrFun hT0 j);have HTT:Hid (∀ j,T0 j→T j):=Lib.hid (fun j q=>by rw [HT.out];rw [hT0] at q;rcases q with q | q;exact Or.inl q.2;exact Or.inr q.2)
   clear hT0 hA hM hn;have cc:wr.cell? ⟨gs,1,none⟩=some (.map (some (y.fl f))):=by rw [World.cell?_of_block (bz.block _ hgs1)];exact HC1.out
   have hmb:y.fl f<w1.heap.size:=by have:=HW.out;omega
   go_upto_region 6 with (first
    | (at_range;refine wpList_rngi rfl (.tmp 23) 57 rfl 3 45 Tryz.underlying3 Tryz.underlying57 _ _ n rfl hm ?_;intro w4 hrg4 hg4))
   have b4:Below w1.heap.size w1 w4:=bz.trans ((grown_below hg4).mono bz.size);obtain ⟨rb,hrb⟩:∃ rb,wr.heap.size=rb:=⟨_,rfl⟩;have HNE:=Lib.hid (show w1.heap.size≤rb by have:=bz.size;omega)
   rw [hrb] at hrg4;rw [hrb];obtain ⟨mb,hmbe⟩:∃ mb,y.fl f=mb:=⟨_,rfl⟩;rw [hmbe] at hrg4;rw [hmbe];have HMB:=Lib.hid hmbe;clear hrb hm hg4 bz cc hmb hmbe
   go_frame
   go_loopg [4] n (fun gk v4 wr=>∃ (left:Int→Bool) (o:Option Int),v4=oP y o∧Ri Tryz.prog 3 wr mb rb M n left gk∧Hid (Bst s (fun j=>T0 j∨(A j=true∧left j=false)) o)∧Hid (∀ i,o=some i→T i)∧Hid (∀ j,left j=true→A j=true)∧Below w1.heap.size w1 wr)
   case atStart =>
    have hst:∀ j,(M j).isSome=A j:=fun j=>by rw [HM.out j];cases A j <;> rfl
    refine ⟨_,o,rfl,hrg4,Lib.hid (HB.out.ext fun j=>⟨fun q=>q.elim id (fun q=>by have h1:=q.2;simp only [hst,q.1] at h1;cases h1),Or.inl⟩),Lib.hid (fun i q=>?_),Lib.hid (fun j q=>by simp only [hst] at q;exact q),b4⟩
    subst q;exact HTT.out i HB.out.1
   case round =>
    clear hrg4 b4;obtain ⟨left,o,rfl,hrg,HO,HOT,HLF,bz⟩:=hrel;go_wp2_with (at_next;refine wpList_nxti rfl (.tmp 24) rfl 3 Tryz.underlying3 mb rb M n left gk rfl hrg ?_ ?_)
    ·intro hdone
     have HO2:Hid (Bst s (fun j=>(0<2∧(gf.pi.a j).isSome=true)∨(1<2∧(gf.lo.a j).isSome=true)) o):=Lib.hid (HO.out.ext fun j=>by
      rw [HT0.out j];have ha:=HA.out j;have hd:A j=true→left j=false:=fun q=>hdone j (HAW.out j q);rw [ha] at hd ⊢;simp;exact ⟨fun q=>q.elim Or.inl (fun q=>Or.inr ⟨q,hd q⟩),fun q=>q.elim Or.inl (fun q=>Or.inr q.1)⟩)
     have hmbe:=HMB.out;clear hrg HMB;subst hmbe;go_wp2_with fail
     go_roundg 0
     case measure=>omega
     case rel=>exact ⟨2,o,rfl,rfl,rfl,HO2,bz⟩
    ·intro x v w5 g1 hg1 hwx hlx hMx hrg5 hg5 hen
     have hAx:A x=true:=HLF.out x hlx;have hv:v=ptr (y.bx x):=by rw [HM.out x,if_pos hAx] at hMx;injection hMx with hMx;exact hMx.symm
     subst hv;have b5:Below w1.heap.size w1 w5:=bz.trans ⟨hg5.os,hg5.tape,hg5.output,hg5.size,fun j hj=>hg5.block j (by have:=bz.size;omega) (by have:=HNE.out;simp;omega)⟩
     have hc5:=H0.out.below (HB1.out.trans (b5.mono HW.out));obtain ⟨b,hb,hbi,hBb⟩:=HBX.out x (HAT.out x hAx);have ki:=quiet_eq (k_idle hc5 hb);have HG1:=Lib.hid hg1;have HAX:=Lib.hid hAx;have HLF':Hid (∀ j,(left j && !(j == x))=true→A j=true):=Lib.hid (fun j q=>by simp at q;exact HLF.out j q.1)
     have hTx:∀ j,(T0 j∨(A j=true∧(left j && !(j == x))=false))↔((T0 j∨(A j=true∧left j=false))∨j=x):=fun j=>by
      by_cases e:j=x
      ·subst e;simp [HAX.out]
      ·simp [e]
     have HTX:=Lib.hid hTx;have HXT:=Lib.hid (HAT.out x hAx);clear hTx hg1 hAx hwx hlx hMx hg5 hrg bz
     cases hid:b.q.idle with
     | false =>
      rw [hid] at ki;have KI:=Lib.hid ki;have HN:Hid (Bst s (fun j=>T0 j∨(A j=true∧(left j && !(j == x))=false)) o):=Lib.hid ((HO.out.skip (x:=x) (by rw [hBb];exact hid)).ext HTX.out)
      clear ki hid hb hbi hBb hc5;go_wp2_with (go_at_call 62;with_reducible refine KI.out.mono ?_;rintro e w' ⟨rfl,rfl⟩)
      go_roundg g1
      case measure=>exact HG1.out
      case rel=>exact ⟨_,o,rfl,hrg5,HN,HOT,HLF',b5⟩
     | true =>
      rw [hid] at ki;have KI:=Lib.hid ki
      cases o with
      | none =>
       have HN:Hid (Bst s (fun j=>T0 j∨(A j=true∧(left j && !(j == x))=false)) (some x)):=Lib.hid ((HO.out.first (x:=x) (by rw [hBb];exact hid)).ext HTX.out)
       clear ki hid hb hbi hBb hc5;simp only [oP];go_wp2_with (go_at_call 62;with_reducible refine KI.out.mono ?_;rintro e w' ⟨rfl,rfl⟩)
       go_roundg g1
       case measure=>exact HG1.out
       case rel=>exact ⟨_,some x,rfl,hrg5,HN,Lib.hid (fun i q=>by injection q with q;subst q;exact HXT.out),HLF',b5⟩
      | some i =>
       obtain ⟨c,hc,hci,hBc⟩:=HBX.out i (HOT.out i rfl)
       have kf:Calls Tryz.prog 63 #[ptr (y.bx x),ptr (y.bx i)] w5 fun e w'=>e=.returned (.bool (frs (s.B x) (s.B i)))∧∃ n,w'=w5.drewN n:=by
        rw [hBb,hBc];exact c_fresher w5 (y.bx x) (y.bx i) b c ((hc5.ob (.bx x)) b hb).2 ((hc5.ob (.bx i)) c hc).2
       have HXI:Hid ((s.B x).id=x∧(s.B i).id=i∧(s.B x).q.idle=true):=Lib.hid ⟨by rw [hBb];exact hbi,by rw [hBc];exact hci,by rw [hBb];exact hid⟩
       cases hfs:frs (s.B x) (s.B i) with
       | false =>
        rw [hfs] at kf;have KF:=Lib.hid kf;have HN:Hid (Bst s (fun j=>T0 j∨(A j=true∧(left j && !(j == x))=false)) (some i)):=Lib.hid ((HO.out.worse HXI.out.1 HXI.out.2.1 hfs).ext HTX.out);clear ki kf hid hb hbi hBb hc hci hBc hc5 hfs;simp only [oP]
        go_wp2_with (first
         | (go_at_call 62;with_reducible refine KI.out.mono ?_;rintro e w' ⟨rfl,rfl⟩)
         | (go_at_call 63;with_reducible refine KF.out.mono ?_;rintro e w' ⟨rfl,nf,rfl⟩))
        go_roundg g1
        case measure=>exact HG1.out
        case rel=>exact ⟨_,some i,rfl,hrg5,HN,HOT,HLF',below_drewN b5 _⟩
       | true =>
        rw [hfs] at kf;have KF:=Lib.hid kf;have HN:Hid (Bst s (fun j=>T0 j∨(A j=true∧(left j && !(j == x))=false)) (some x)):=Lib.hid ((HO.out.better HXI.out.2.2 HXI.out.1 HXI.out.2.1 hfs).ext HTX.out);clear ki kf hid hb hbi hBb hc hci hBc hc5 hfs;simp only [oP]
        go_wp2_with (first
         | (go_at_call 62;with_reducible refine KI.out.mono ?_;rintro e w' ⟨rfl,rfl⟩)
         | (go_at_call 63;with_reducible refine KF.out.mono ?_;rintro e w' ⟨rfl,nf,rfl⟩))
        go_roundg g1
        case measure=>exact HG1.out
        case rel=>exact ⟨_,some x,rfl,hrg5,HN,Lib.hid (fun i q=>by injection q with q;subst q;exact HXT.out),HLF',below_drewN b5 _⟩
  ·subst q
   have hfr:fr=o:=by
    rw [←HFR.out];refine HFF.out o (HB.out.ext fun j=>?_);rw [HT.out];simp
   subst hfr;have b2:=HB1.out.trans (bz.mono HW.out);clear bz
   cases fr with
   | none =>
    simp only [oP];go_wp2_with fail
    go_ret2
    exact ⟨rfl,b2⟩
   | some i =>
    simp only [oP];go_wp2_with fail
    go_ret2
    exact ⟨rfl,b2⟩
end Go.Proofs.YthdengocipfgiaaGreat.W.C
