import Derived.Test.YthdengocipfgiaaGreatCcA
/- A part of what core's laws stand on. -/
set_option linter.unusedVariables false
set_option linter.unusedSimpArgs false
set_option maxRecDepth 100000
set_option maxHeartbeats 3200000
namespace Go.Proofs.YthdengocipfgiaaGreat.W.C
open Go.RowKit Go.Proofs.YthdengocipfgiaaGreat.W
attribute [local go_sem] Oper.semAt_some
theorem k_tickG {w:World} {own:Nat→Option Tag} {y:Lay} {s:St} (h:Cor w own y s) {a:Int} {z r t:Nat} (e:s.tk.a a=some (z,r,t)):Calls Tryz.prog 92 #[ptr (y.bk a)] w fun e w'=>e=.returned (.tuple #[])∧To w own y { s with tk:=s.tk.set a (z,r,min (t+r) z) } w'∧w.grownBy w' (some (y.bk a)):=by
 refine (b_tick _ _ _ _ _ (h.ob (.bk a) _ e).2).mono ?_;rintro e' w' ⟨rfl,h1,h2⟩;exact ⟨rfl,To.of (h.bk e h1 h2),h2⟩
def tkP (m:Tb (Nat×Nat×Nat)) (left:Int→Bool):Tb (Nat×Nat×Nat):=⟨fun a=>if left a then m.a a else (m.a a).map tickB,m.n⟩
theorem tkP_start (m:Tb (Nat×Nat×Nat)) {left:Int→Bool} (h:∀ a,left a=(m.a a).isSome):tkP m left=m:=by
 unfold tkP
 have:(fun a=>if left a then m.a a else (m.a a).map tickB)=m.a:=by
  funext a
  rw [h]
  cases q:m.a a <;> rfl
 rw [this]
theorem tkP_end (m:Tb (Nat×Nat×Nat)) {left:Int→Bool} (h:∀ a,left a=true→m.a a=none):tkP m left=⟨fun a=>(m.a a).map tickB,m.n⟩:=by
 unfold tkP;congr 1
 funext a
 cases q:left a with
 | true=>rw [h a q];rfl
 | false=>rfl
theorem tkP_step (m:Tb (Nat×Nat×Nat)) {left:Int→Bool} {x:Int} {z r t:Nat} (hx:left x=true) (e:m.a x=some (z,r,t)):(tkP m left).set x (z,r,min (t+r) z)=tkP m (fun a=>left a && !(a == x)):=by
 have e1:(tkP m left).a x=some (z,r,t):=by show (if left x then _ else _)=_;rw [hx];exact e
 unfold Tb.set;rw [e1];show (⟨updZ (tkP m left).a x _,m.n⟩:Tb _)=⟨_,m.n⟩;congr 1
 funext a
 rw [updZ_at]
 by_cases q:a=x
 ·rw [if_pos q,q]
  have:(left x && !(x == x))=false:=by simp
  show _=if (left x && !(x == x)) then _ else _
  rw [this,e];rfl
 ·rw [if_neg q]
  have:(left a && !(a == x))=left a:=by simp [q]
  show _=if (left a && !(a == x)) then _ else _
  rw [this];rfl
theorem gen_d {A:World→Prop} {K:Nat} {W:World} {own:Nat→Option Tag} {y:Lay} {l:Nat} {r:Loop} (h:A W) (k:∀ W6,A W6→DuRounds K W6 own y l r):DuRounds K W own y l r:=k W h
theorem due_hit {K:Nat} {y:Lay} {own ow:Nat→Option Tag} {w wc:World} {s:St} {Bp:Nat} (h3:Cor wc ow y s) (N3:Nx w own wc ow) (hI:Inv (K+btN s.T) 0 s)
    (hB:wc.heap[Bp]?=some (boxC y)) (hoB:ow Bp=none) (fn:FuncId) (a:Act) (ps:Array Tmp) (assign body:Code)
    (hY:DuRounds K (loopW wc (recOf fn a ps assign body wc.heap.size .ready none)) ow y (wc.heap.size+1) (recOf fn a ps assign body wc.heap.size .ready none)) :
    Calls Tryz.prog 135 (#[.func (.yield (wc.heap.size+1)) #[] #[]] ++ #[ptr Bp]) (loopW wc (recOf fn a ps assign body wc.heap.size .ready none)) fun e W=>(∃ v,e=.returned v) ∧
      (
       (W.heap[wc.heap.size+1]?=some (.loop (recOf fn a ps assign body wc.heap.size .ready none))∧∃ bx o',Cor W o' (y.at_ bx) (s.dues s.tn)∧Nx w own W o'∧o' (wc.heap.size+1)=none∧W.heap[wc.heap.size]?=some (.deferred (some []))∧o' wc.heap.size=none) ∨
       ∃ c,W.heap[wc.heap.size+1]?=some (.loop (recOf fn a ps assign body wc.heap.size .done (some c)))∧False):=by
  have hBl:=lt_of_row hB;have hB6:=Only.blk (Only.of_below (S:=fun _=>False) (loopW_below wc (recOf fn a ps assign body wc.heap.size .ready none))) (fun q=>q) hB;have hol:=h3.fresh (j:=wc.heap.size+1) (by omega)
  obtain ⟨r,hr⟩:∃ r,recOf fn a ps assign body wc.heap.size .ready none=r:=⟨_,rfl⟩;have hW6r:=loopW_rec wc r;have hW6d:=loopW_def wc r;have hW6b:=loopW_below wc r;have hW6s:=loopW_size wc r;rw [hr] at hY hB6 ⊢;obtain ⟨W6,hW6⟩:∃ W6,loopW wc r=W6:=⟨_,rfl⟩;rw [hW6] at hY hB6 hW6r hW6d hW6b hW6s ⊢;refine Calls.mono (c_due1 (h3.below hW6b) hI (wc.heap.size+1) Bp r hB6 hoB (by omega) hW6r hol hY) ?_
  rintro e W ⟨hv,bx,o',hC,hN,ho,hrl⟩;refine ⟨hv,Or.inl ⟨hrl,bx,o',hC,(N3.trans (Nx.below ow hW6b)).transL hN (by have:=N3.only.size;omega),ho,hN.blk (h3.fresh (Nat.le_refl _)) (by omega) hW6d,hN.none (h3.fresh (Nat.le_refl _)) (by rw [hW6s];omega)⟩⟩
theorem tick_stop {s:St} (h:s.now=1099511627776):s.tick=s:=by unfold St.tick;rw [if_pos h]
theorem tick_go {s:St} (h:s.now≠1099511627776):s.tick=(({ s with now:=s.now+1,tk:=⟨fun a=>(s.tk.a a).map tickB,s.tk.n⟩ }:St).dues s.tn).keepAll 64:=by
 unfold St.tick;rw [if_neg h]
theorem coreB {w:World} {own:Nat→Option Tag} {y:Lay} {s:St} (h:Cor w own y s):∃ w1,w.alloc (.cells #[ptr y.c] 24)=w1∧Cor w1 own y s∧w1.heap[w.heap.size]?=some (boxC y)∧Below w.heap.size w w1 :=
 ⟨_,rfl,h.alloc _,heap_alloc_new w _,(Below.refl _ _).alloc (Nat.le_refl _) _⟩
theorem c_tick {w:World} {own:Nat→Option Tag} {y:Lay} {s:St} (h:Cor w own y s) {K:Nat} (hI:Inv (K+64064) 0 s) :
    Calls Tryz.prog 51 #[ptr y.c] w fun e w'=>e=.returned (.tuple #[])∧Tb_ w own y s.tick w':=by
  have hnow:=hI.now;obtain ⟨w1,hw1,h1,hz,hb1⟩:=coreB h
  by_cases hmx:s.now=1099511627776
  · have d:(s.now == 1099511627776)=true:=by simp [hmx]
    have HE:=Lib.hid (tick_stop hmx);clear hmx hnow hI
    go_enter Tryz.func51,Tryz.ntmps51
    go_upto_region 1 with (fail)
    have q0:=h1.c0;have z0:=cell_of_row _ _ 0 _ _ _ hz;go_wp2_with fail
    (try simp only [Exit.inBlock,Exit.then]);refine bodyPost_ret (results_none rfl _ _ _) rfl ?_
    exact ⟨rfl,y.bx,own,by rw [HE.out];exact h1,Nx.below own hb1⟩
  · have d:(
              s.now == 1099511627776)=false:=by simp [hmx]
    have HE:=Lib.hid (tick_go hmx);have hwr:IntKind.i64.wrap (s.now+1)=s.now+1:=wrap_small (by omega) (by omega)
    have HI2:=Lib.hid (hI.tick1 hmx);have HTK:=Lib.hid hI.tk;clear hmx hnow hI;refine (callsIn_wide (n:=3)).1 (callsIn_of_wp_marks Tryz.func51 rfl trivial (wpIn_wide.2 ?_) rfl);simp only [Tryz.ntmps51,List.size_toArray,List.length_cons,List.length_nil,Nat.reduceAdd,Nat.reduceSub,Array.replicate_succ,Array.replicate_zero,List.push_toArray,List.append_toArray,List.nil_append,List.cons_append];go_upto_region 1 with (fail)
    have HFZ:=Lib.hid (fun j (q:w.heap.size≤j)=>h.fresh q);have HB1:=Lib.hid hb1;have HZ1:=Lib.hid hz;obtain ⟨z,hzz⟩:∃ z,w.heap.size=z:=⟨_,rfl⟩;rw [hzz] at HZ1 HFZ;rw [hzz];have HZZ:=Lib.hid hzz;clear hw1 h hz hb1 hzz;obtain ⟨v,hr⟩:=h1.crow;have hcl:0<(C.crow y s.now s.last v).length:=by rw [crow_len];decide
    have q0:=h1.c0;have z0:=cell_of_row _ _ 0 _ _ _ HZ1.out;go_upto_region 3 with (with_reducible refine wpList_store_in rfl 2 (.tmp 16) (.tmp 14) rfl (by kernel_rfl) y.c 0 rfl .i64 (s.now+1) rfl _ _ hr hcl ?_;intro w2 m2 g2)
    obtain ⟨h2,n2⟩:=Cor.coreN h1 (now:=s.now+1) (last:=s.last) hr m2.out g2;have hzo:=HFZ.out z (Nat.le_refl z);have HZ2:=Lib.hid (n2.blk hzo HZ1.out);have hO2:=n2.none hzo (lt_of_row HZ1.out);have HN2:=Lib.hid ((Nx.below own HB1.out).trans n2);generalize grow own w1 w2 .core=o2 at h2 hO2 HN2;have HO2:=Lib.hid hO2;obtain ⟨s1,hs1⟩:∃ s1:St,({ s with now:=s.now+1,last:=s.last }:St)=s1:=⟨_,rfl⟩;rw [hs1] at h2;have htk:s1.tk=s.tk:=by rw [←hs1]
    have HS1:=Lib.hid hs1;clear q0 z0 hr hcl m2 g2 n2 h1 hO2 hzo hs1 d hwr;have q3:=h2.c3;have z0:=cell_of_row _ _ 0 _ _ _ HZ2.out;obtain ⟨M,hM⟩:∃ M:Int→Option Value,M=fun i=>(s.tk.a i).map (fun _=>ptr (y.bk i)):=⟨_,rfl⟩;obtain ⟨n,hn⟩:∃ n,s.tk.n=n:=⟨_,rfl⟩
    have hm:Mp Tryz.prog 3 w2 y.mb M n:=by
      have:=(h2.ob .mb).2
      rw [htk] at this;rw [hM,←hn];exact this
    have HM:=Lib.hid (fun i=>congrFun hM i);have hMs:∀ j,(M j).isSome=(s.tk.a j).isSome:=fun j=>by rw [hM];show (Option.map _ (s.tk.a j)).isSome=_;cases s.tk.a j <;> rfl
    have HMS:=Lib.hid hMs;have HTKE:=Lib.hid htk;clear hM hn hMs htk
    go_upto_region 4 with (first
      | (at_range;refine wpList_rngi rfl (.tmp 20) 53 rfl 3 153 Tryz.underlying3 Tryz.underlying53 _ _ n rfl hm ?_;intro w3 hrg3 hg3))
    have hb3:=grown_below hg3;have h3:=h2.below hb3;have HZ3:=Lib.hid ((Only.of_below (S:=fun _=>False) hb3).blk (fun q=>q) HZ2.out);have HN3:=Lib.hid (HN2.out.trans (Nx.below o2 hb3));have HRO:=Lib.hid (h2.fresh (Nat.le_refl w2.heap.size));obtain ⟨rb,hrb⟩:∃ rb,w2.heap.size=rb:=⟨_,rfl⟩;have HZR:=Lib.hid (And.intro (lt_of_row HZ2.out) (show w.heap.size≤w2.heap.size from HN2.out.only.size))
    rw [hrb] at hrg3 HRO HZR;rw [hrb];clear hrb hm hg3 hb3 q3 z0 h2 HN2 HZ2
    go_frame
    go_loopg [] n (fun gk wr=>∃ (left:Int→Bool) (o':Nat→Option Tag),Ri Tryz.prog 3 wr y.mb rb M n left gk∧Cor wr o' y { s1 with tk:=tkP s.tk left }∧Hid (Nx w own wr o')∧Hid (o' rb=none)∧Hid (o' z=none)∧Hid (wr.heap[z]?=some (boxC y))∧Hid (∀ j,left j=true→(s.tk.a j).isSome=true))
    case atStart =>
      refine ⟨_,o2,hrg3,?_,HN3,HRO,HO2,HZ3,Lib.hid (fun j q=>by rw [←HMS.out];exact q)⟩
      rw [tkP_start s.tk HMS.out,←HTKE.out];exact h3
    case round =>
      clear hrg3 h3 HN3 HRO HO2 HZ3;obtain ⟨left,o',hrg,hr,HN,HRO,HZO,HZA,HLF⟩:=hrel;go_wp2_with (at_next;refine wpList_nxti rfl (.tmp 21) rfl 3 Tryz.underlying3 y.mb rb M n left gk rfl hrg ?_ ?_)
      · intro hdone
        have hend:tkP s.tk left=⟨fun a=>(s.tk.a a).map tickB,s.tk.n⟩:=tkP_end s.tk (fun a q=>by
          cases e:s.tk.a a with
          | none=>rfl
          | some u =>
            have:=HTK.out a u e
            rw [hdone a (wfK (by omega) (by omega))] at q;cases q)
        rw [hend,←HS1.out] at hr;obtain ⟨s2,hs2⟩:∃ s2:St,({ s with now:=s.now+1,tk:=⟨fun a=>(s.tk.a a).map tickB,s.tk.n⟩ }:St)=s2:=⟨_,rfl⟩;have hr2:Cor wr o' y s2:=by rw [←hs2];exact hr
        have HI3:Hid (Inv (K+64064) 0 s2):=by rw [←hs2];exact HI2
        have HE2:Hid (s.tick=(s2.dues s2.tn).keepAll 64):=Lib.hid (by rw [HE.out,←hs2])
        have HZA2:=HZA;have HN2:=HN;have HZO2:=HZO;clear hs2 hr hend hdone hrg HS1 HTK HI2 HE HMS HM HRO HLF HZR HTKE HZA HN HZO;have z0:=cell_of_row _ _ 0 _ _ _ HZA2.out;go_wp2_with fail
        with_reducible refine (c_dueF y.c).mono ?_
        rintro e w5 ⟨rfl,rfl⟩;have hb5:Below wr.heap.size wr (wr.alloc (.cells #[ptr y.c] 24)):=(Below.refl _ _).alloc (Nat.le_refl _) _;have h5:=hr2.below hb5;have HN5:=Lib.hid (HN2.out.trans (Nx.below o' hb5));have HP5:Hid ((wr.alloc (.cells #[ptr y.c] 24)).heap[wr.heap.size]?=some (boxC y)):=Lib.hid (heap_alloc_new wr _);have hoP:=hr2.fresh (Nat.le_refl wr.heap.size);have HZ5:=Lib.hid ((Only.of_below (S:=fun _=>False) hb5).blk (fun q=>q) HZA2.out);clear hb5 z0 hr2 HZA2 HN2;generalize wr.alloc (.cells #[ptr y.c] 24)=w5 at h5 HN5 HP5 HZ5 ⊢;generalize wr.heap.size=Bp at HP5 hoP ⊢;go_wp2_with fail
        have hId:Inv (K+64000+btN s2.T) 0 s2:=HI3.out.mono (by have:=btN_le s2.T;omega) (Nat.le_refl _)
        refine range_func rfl (enters_of Tryz.func135 (by kernel_rfl) rfl) (fun W=>∃ bx o2,Cor W o2 (y.at_ bx) (s2.dues s2.tn)∧Nx w5 o' W o2∧o2 (w5.heap.size+1)=none∧W.heap[w5.heap.size]?=some (.deferred (some []))∧o2 w5.heap.size=none) (fun _ _=>False) ?hit ?hR ?hX
        case hit =>
          intro fn;refine due_hit h5 (Nx.refl w5 o') hId HP5.out hoP fn _ _ _ _ ?hY
          case hY =>
            refine gen_d (A:=fun W6=>Hid (W6.heap[z]?=some (boxC y))) (Lib.hid (Only.blk (Only.of_below (S:=fun _=>False) (loopW_below w5 _)) (fun q=>q) HZ5.out)) ?_;rintro W6 HA6;intro sk k1 k2 bx W oW hIk hd hC hN hrl hol;have HLN:=Lib.hid (show z≠w5.heap.size+1 by have:=lt_of_row HZ5.out;omega)
            generalize w5.heap.size+1=l at hrl hol hN HLN ⊢;have HAW:=Lib.hid (hN.blk HZO2.out HLN.out HA6.out);have HZW:=Lib.hid (hN.none HZO2.out (lt_of_row HA6.out));have HRL:=Lib.hid hrl;have HHL:=Lib.hid hol;have HCC:=Lib.hid hC;have HLW:=Lib.hid (lt_of_row hrl)
            rcases hIk.due hd with ⟨hk1,⟨b,hb,hu⟩,hbt,hI1⟩ | ⟨hk1,⟨g,eg⟩,hbt,hI1⟩
            · have hk1:k1=0:=hk1
              subst hk1;have hst:sk.step (0,k2)=(sk.delT (0,k2)).kill k2:=by unfold St.step;rw [if_pos rfl]
              rw [hst];obtain ⟨sd,hsd⟩:∃ sd,sk.delT (0,k2)=sd:=⟨_,rfl⟩;have hb1:sd.bx k2=some b:=by rw [←hsd];exact hb
              rw [hsd] at hI1 HCC ⊢;obtain ⟨_,p,ep,_⟩:=hI1.onP k2 b hb1 hu;obtain ⟨g,eg,_⟩:=hI1.onF k2 b hb1 hu;have B:=hI1.bd (by omega)
              obtain ⟨um,hm⟩:=Option.isSome_iff_exists.1 (hI1.mx_of hb1 hu);have hwf:(KL k2).wf=true:=(B.wb hb1).1;have KK:=Lib.hid (fun (W9:World) (h9:Cor W9 oW (y.at_ bx) sd)=>c_kill h9 B hb1 ep eg);have HMX:=Lib.hid hm;have HWF:=Lib.hid hwf;obtain ⟨se,hse⟩:∃ se,sd.kill k2=se:=⟨_,rfl⟩;rw [hse] at KK ⊢
              obtain ⟨fn',t',a',b',hy,hR⟩:=yield_round (P:=Tryz.prog) (xs:=#[.agg #[.int .i64 0,.int .i64 k2]]) rfl hrl (fun W'=>∃ bx' o',Cor W' o' (y.at_ bx') se∧Nl l W oW W' o'∧o' l=none) (fun _ _=>False) (by
                clear hse hm hwf B ep eg hI1 hb1 hsd hst hbt hb hu hIk hd hC hN hrl hol hId h5
                gi_wp2
                refine ⟨((Only.refl W (fun _=>False)).alloc _).blk (fun q=>q) HRL.out,?_⟩;obtain ⟨Hk,hHk⟩:∃ Hk,W.heap.size=Hk:=⟨_,rfl⟩;have HKL:=Lib.hid (show Hk≠l by have:=HLW.out;omega)
                have hbk:Below W.heap.size W (W.alloc (.cells #[.int .i64 0,.int .i64 k2] 77)):=(Below.refl _ _).alloc (Nat.le_refl _) _;have hHO:oW Hk=none:=by rw [←hHk];exact HCC.out.fresh (Nat.le_refl _)
                have hk8:(W.alloc (.cells #[.int .i64 0,.int .i64 k2] 77)).heap[Hk]?=some (keyO (0,k2)):=by rw [←hHk];exact heap_alloc_new W _
                rw [hHk];have HHO:=Lib.hid hHO;refine gen_put (A:=fun W8=>Cor W8 oW (y.at_ bx) sd∧Nl l W oW W8 oW∧Hid (W8.heap[z]?=some (boxC y))∧Hid (W8.heap[Hk]?=some (keyO (0,k2)))) (Nat.lt_of_lt_of_le HLW.out hbk.size) ⟨(HCC.out.below hbk).side (putObj_only _ l _) (fun j q=>by rw [q];exact HHL.out),(Nl.of l (Nx.below oW hbk)).put _,Lib.hid ((World.putObj_heap_other HLN.out).trans (Only.blk (Only.of_below (S:=fun _=>False) hbk) (fun q=>q) HAW.out)),Lib.hid ((World.putObj_heap_other HKL.out).trans hk8)⟩ ?_
                clear hbk hk8 hHO hHk;rintro W8 ⟨h8,N8,HA8,HK8⟩ hob;have HOB8:=Lib.hid hob;clear hob;have z0:=cell_of_row _ _ 0 _ _ _ HA8.out;have y0:W8.cell? ⟨Hk,0,none⟩=some (.int .i64 0):=cell_of_row _ _ 0 _ _ _ HK8.out;have y1:W8.cell? ⟨Hk,1,none⟩=some (.int .i64 k2):=cell_of_row _ _ 1 _ _ _ HK8.out;have q7:W8.cell? ⟨y.c,7,none⟩=some (.map (some y.mx)):=h8.c7;have ql:(Instr.lookup 57 (.map (some y.mx)) (.int .i64 k2) false).run Tryz.prog W8=.ok (ptr (bx k2)) W8:=h8.lx HMX.out HWF.out;have ql1:∀ j,(Instr.lookup 57 (.map (some y.mx)) (.int .i64 k2) false).run Tryz.prog (W8.drewN j)=.ok (ptr (bx k2)) (W8.drewN j):=fun j=>(h8.drewN j).lx HMX.out HWF.out;have ql2:(Instr.lookup 57 (.map (some y.mx)) (.int .i64 k2) false).run Tryz.prog W8.drew=.ok (ptr (bx k2)) W8.drew:=h8.drew.lx HMX.out HWF.out;have KD:Hid (Calls Tryz.prog 86 #[ptr y.c,ptr (bx k2)] W8.drew fun e w'=>e=.returned (.tuple #[])∧To W8.drew oW (y.at_ bx) se w'):=Lib.hid (KK.out _ h8.drew);have hmix:Tryz.prog.follows .mixedOrders=true:=by kernel_rfl
                gi_wp2_with fail
                gi_region_with_o (refine ⟨trivial,?_⟩;gi_at_call 86;refine (CallsIn.inRound l (callsIn_wide.2 KD.out)).mono ?_;rintro e W9 ⟨rfl,o9,h9,n9⟩)
                all_goals
                  (
                   gi_wp2
                   exact ⟨n9.blk HHL.out HOB8.out,fun o=>⟨bx,o9,h9.side (putObj_only _ l o) (fun j q=>by rw [q];exact n9.none HHL.out (lt_of_row HOB8.out)),(N8.drew.trans n9).put o,n9.none HHL.out (lt_of_row HOB8.out)⟩⟩))
              exact ⟨fn',t',a',b',hy,hR.mono (fun e W' q=>by
                rcases q with ⟨q1,q2,q3⟩ | ⟨q1,c,q2,q3⟩
                · exact ⟨q1,q2,q3⟩
                · exact q3.elim)⟩
            · have hk1:k1=1:=hk1
              subst hk1;have hst:sk.step (1,k2)=(sk.delT (1,k2)).ahead k2:=by unfold St.step;rw [if_neg (show ¬ ((1:Int),k2).1=0 from fun e=>by simp at e),if_pos rfl]
              rw [hst];obtain ⟨sd,hsd⟩:∃ sd,sk.delT (1,k2)=sd:=⟨_,rfl⟩;have eg1:sd.fu.a k2=some g:=by rw [←hsd];exact eg
              rw [hsd] at hI1 HCC ⊢;have hIa:Inv (K+64000+1) 0 sd:=hI1.mono (by omega) (Nat.le_refl _)
              have B:=hI1.bd (by omega)
              have hwf:(KL k2).wf=true:=B.wg eg1;have KK:=Lib.hid (fun (W9:World) (h9:Cor W9 oW (y.at_ bx) sd)=>c_ahead h9 eg1 hIa);have HMX:=Lib.hid eg1;have HWF:=Lib.hid hwf;obtain ⟨se,hse⟩:∃ se,sd.ahead k2=se:=⟨_,rfl⟩;rw [hse] at KK ⊢
              obtain ⟨fn',t',a',b',hy,hR⟩:=yield_round (P:=Tryz.prog) (xs:=#[.agg #[.int .i64 1,.int .i64 k2]]) rfl hrl (fun W'=>∃ bx' o',Cor W' o' (y.at_ bx') se∧Nl l W oW W' o'∧o' l=none) (fun _ _=>False) (by
                clear hse hwf B eg eg1 hIa hI1 hsd hst hbt hIk hd hC hN hrl hol hId h5
                gi_wp2
                refine ⟨((Only.refl W (fun _=>False)).alloc _).blk (fun q=>q) HRL.out,?_⟩;obtain ⟨Hk,hHk⟩:∃ Hk,W.heap.size=Hk:=⟨_,rfl⟩;have HKL:=Lib.hid (show Hk≠l by have:=HLW.out;omega)
                have hbk:Below W.heap.size W (W.alloc (.cells #[.int .i64 1,.int .i64 k2] 77)):=(Below.refl _ _).alloc (Nat.le_refl _) _;have hHO:oW Hk=none:=by rw [←hHk];exact HCC.out.fresh (Nat.le_refl _)
                have hk8:(W.alloc (.cells #[.int .i64 1,.int .i64 k2] 77)).heap[Hk]?=some (keyO (1,k2)):=by rw [←hHk];exact heap_alloc_new W _
                rw [hHk];have HHO:=Lib.hid hHO;refine gen_put (A:=fun W8=>Cor W8 oW (y.at_ bx) sd∧Nl l W oW W8 oW∧Hid (W8.heap[z]?=some (boxC y))∧Hid (W8.heap[Hk]?=some (keyO (1,k2)))) (Nat.lt_of_lt_of_le HLW.out hbk.size) ⟨(HCC.out.below hbk).side (putObj_only _ l _) (fun j q=>by rw [q];exact HHL.out),(Nl.of l (Nx.below oW hbk)).put _,Lib.hid ((World.putObj_heap_other HLN.out).trans (Only.blk (Only.of_below (S:=fun _=>False) hbk) (fun q=>q) HAW.out)),Lib.hid ((World.putObj_heap_other HKL.out).trans hk8)⟩ ?_
                clear hbk hk8 hHO hHk;rintro W8 ⟨h8,N8,HA8,HK8⟩ hob;have HOB8:=Lib.hid hob;clear hob;have z0:=cell_of_row _ _ 0 _ _ _ HA8.out;have y0:W8.cell? ⟨Hk,0,none⟩=some (.int .i64 1):=cell_of_row _ _ 0 _ _ _ HK8.out;have y1:W8.cell? ⟨Hk,1,none⟩=some (.int .i64 k2):=cell_of_row _ _ 1 _ _ _ HK8.out;have q7:W8.cell? ⟨y.c,4,none⟩=some (.map (some y.mf)):=h8.c4;have ql:(Instr.lookup 54 (.map (some y.mf)) (.int .i64 k2) false).run Tryz.prog W8=.ok (ptr (y.fb k2)) W8:=h8.lf HMX.out HWF.out;have ql1:∀ j,(Instr.lookup 54 (.map (some y.mf)) (.int .i64 k2) false).run Tryz.prog (W8.drewN j)=.ok (ptr (y.fb k2)) (W8.drewN j):=fun j=>(h8.drewN j).lf HMX.out HWF.out;have ql2:(Instr.lookup 54 (.map (some y.mf)) (.int .i64 k2) false).run Tryz.prog W8.drew=.ok (ptr (y.fb k2)) W8.drew:=h8.drew.lf HMX.out HWF.out;have KD:Hid (Calls Tryz.prog 94 #[ptr y.c,ptr (y.fb k2)] W8.drew fun e w'=>e=.returned (.tuple #[])∧∃ b,To W8.drew oW (y.at_ b) se w'):=Lib.hid (KK.out _ h8.drew);have hmix:Tryz.prog.follows .mixedOrders=true:=by kernel_rfl
                gi_wp2_with fail
                gi_region_with_o (refine ⟨trivial,?_⟩;gi_at_call 94;refine (CallsIn.inRound l (callsIn_wide.2 KD.out)).mono ?_;rintro e W9 ⟨rfl,b9,o9,h9,n9⟩)
                all_goals
                  (
                   gi_wp2
                   exact ⟨n9.blk HHL.out HOB8.out,fun o=>⟨b9,o9,h9.side (putObj_only _ l o) (fun j q=>by rw [q];exact n9.none HHL.out (lt_of_row HOB8.out)),(N8.drew.trans n9).put o,n9.none HHL.out (lt_of_row HOB8.out)⟩⟩))
              exact ⟨fn',t',a',b',hy,hR.mono (fun e W' q=>by
                rcases q with ⟨q1,q2,q3⟩ | ⟨q1,c,q2,q3⟩
                · exact ⟨q1,q2,q3⟩
                · exact q3.elim)⟩
        case hR =>
          rintro W o ⟨bx,o2,h',n',ho',hd',hod⟩;have hd2:(W.putObj (w5.heap.size+1) o).heap[w5.heap.size]?=some (.deferred (some [])):=(World.putObj_heap_other (by omega)).trans hd'
          have h7:=h'.side (putObj_only W (w5.heap.size+1) o) (fun j q=>by rw [q];exact ho')
          have hzl:=lt_of_row HZ5.out;have hz7:(W.putObj (w5.heap.size+1) o).heap[z]?=some (boxC y):=(World.putObj_heap_other (by omega)).trans (n'.blk HZO2.out HZ5.out)
          have hsz:w5.heap.size≤W.heap.size:=n'.only.size;have n7:Nx w5 o' (W.putObj (w5.heap.size+1) o) o2:=n'.side (putObj_only _ _ _) (fun j q=>by omega)
          have HN7:=Lib.hid (HN5.out.trans n7);have HD7:=Lib.hid hd2;have HOD:=Lib.hid hod;have HDS:=Lib.hid (show w.heap.size≤w5.heap.size from HN5.out.only.size)
          have hI7:Inv (K+64000) 0 (s2.dues s2.tn):=Inv.dues s2.tn hId;have HDL:=Lib.hid (lt_of_row hd2);have z0:=cell_of_row _ _ 0 _ _ _ hz7;have KA:=Lib.hid (c_keepAll h7 hI7);clear h' n' ho' hd' hod hd2 hzl hz7 hsz n7 hI7 h5 hId h7;generalize W.putObj (w5.heap.size+1) o=W7 at z0 HN7 HD7 HDL KA ⊢;generalize w5.heap.size=D at HD7 HOD HDS HDL ⊢;go_wp2_with fail
          with_reducible refine KA.out.mono ?_
          rintro e W8 ⟨rfl,b8,o8,h8,n8⟩;have hd8:=n8.blk HOD.out HD7.out;have ho8:=n8.none HOD.out HDL.out;have HD8:=Lib.hid hd8;clear z0 KA hd8
          go_wp2
          refine ⟨by simp,.inl ⟨_,_,rfl,run_takeDeferred HD8.out,?_⟩⟩
          exact ⟨_,results_none rfl _ _ _,rfl,b8,o8,by rw [HE2.out];exact h8.side (putObj_only _ _ _) (fun j q=>by rw [q];exact ho8),(HN7.out.trans n8).side (putObj_only _ _ _) (fun j q=>by rw [q];exact HDS.out)⟩
        case hX =>
          rintro c W o h;exact h.elim
      · intro x v w5 g1 hg1 hwx hlx hMx hrg5 hg5 hen
        obtain ⟨⟨bz,br,bt⟩,hx⟩:=Option.isSome_iff_exists.1 (HLF.out x hlx);have hv:v=ptr (y.bk x):=by rw [HM.out x,hx] at hMx;injection hMx with hMx;exact hMx.symm
        subst hv;have ho5:Only wr w5 (fun j=>j=rb):=Only.grown hg5 (Or.inl rfl);have h5:=hr.side ho5 (fun j q=>by rw [q];exact HRO.out)
        have e5:(tkP s.tk left).a x=some (bz,br,bt):=by show (if left x then _ else _)=_;rw [hlx];exact hx
        have KT:=Lib.hid (k_tickG h5 e5);have HST:=Lib.hid (tkP_step s.tk hlx hx);have HG1:=Lib.hid hg1;have HLF':Hid (∀ j,(left j && !(j == x))=true→(s.tk.a j).isSome=true):=Lib.hid (fun j q=>by simp at q;exact HLF.out j q.1)
        have hbm:y.bk x≠y.mb:=fun e=>by
          have a1:=((h5.ob (.bk x)) _ e5).1;have a2:=(h5.ob .mb).1;rw [e,a2] at a1;cases a1
        have hbr:y.bk x≠rb:=fun e=>by
          have a1:=((h5.ob (.bk x)) _ e5).1;rw [e,HRO.out] at a1;cases a1
        have hzr:z≠rb:=by have:=HZR.out.1;omega
        have HBM:=Lib.hid (And.intro hbm hbr);have HZ5:=Lib.hid (ho5.blk (fun q=>hzr q) HZA.out);have HN5:=Lib.hid (HN.out.side ho5 (fun j q=>by rw [q];exact HZR.out.2))
        clear hg1 hwx hlx hMx hg5 hrg hx e5 hbm hbr hzr hr;go_wp2_with (go_at_call 92;with_reducible refine KT.out.mono ?_;rintro e w6 ⟨rfl,⟨o6,h6,n6⟩,g6⟩)
        have hrg6:=hrg5.kept (Only.grown g6 (Or.inl rfl) (S:=fun j=>j=y.bk x)) (fun q=>HBM.out.1 q.symm) (fun q=>HBM.out.2 q.symm);go_roundg g1
        case measure=>exact HG1.out
        case rel =>
          refine ⟨_,o6,hrg6,?_,Lib.hid (HN5.out.trans n6),Lib.hid (n6.none HRO.out (hrg5.ne).2),Lib.hid (n6.none HZO.out (lt_of_row HZ5.out)),Lib.hid (n6.blk HZO.out HZ5.out),HLF'⟩;rw [←HST.out];exact h6
end Go.Proofs.YthdengocipfgiaaGreat.W.C
