import Derived.Test.YtnmheoagiilmiaaGreatCdB
import Derived.Test.YtnmheoagiilmiaaGreatCcN
import Derived.BigQuiet
/- A part of what core's laws stand on. -/
set_option linter.unusedVariables false
set_option linter.unusedSimpArgs false
set_option maxRecDepth 100000
set_option maxHeartbeats 6400000
namespace Go.Proofs.YtnmheoagiilmiaaGreat.W.C
open Go.RowKit Go.Proofs.YtnmheoagiilmiaaGreat.W
attribute [local go_sem] Oper.semAt_some
theorem pinned_walk (a0:Option Addr) (k cap:Nat) (Z:Nat→Int) (w:World) (L:Lies w w.heap.size a0 (zs Z (k*10))) (hm:k≤9223372036854775807) :
  Calls Tryz.prog 3 #[.slice a0 k cap] w fun e w'=>e=.returned (.bool true)∧Below w.heap.size w w':=by
 by_cases h200:200<k
 ·go_enter Tryz.func3,Tryz.ntmps3
  go_wp2_with fail
  with_reducible refine (l_head _).mono ?_
  rintro e w1 ⟨rfl,hb1⟩
  go_wp2_with fail
  go_ret
  exact ⟨rfl,hb1⟩
 ·clear hm
  go_enter Tryz.func3,Tryz.ntmps3
  go_wp2_with fail
  with_reducible refine (l_head _).mono ?_
  rintro e w1 ⟨rfl,b1⟩
  go_wp2_with fail
  with_reducible refine (c_NewW w1).mono ?_
  rintro e w2 ⟨c1,p1,rfl,k1,_,g1,b2⟩
  have F2:Hid (Far w p1 w2):=Lib.hid ⟨b1.trans (b2.mono b1.size),fun j q=>Nat.le_trans b1.size (g1 j q)⟩
  have K2:=Lib.hid k1
  have I2:Hid (Inv ((200-0)*64064+64064) 0 St.zero∧St.zero.out=[]∧Pv St.zero):=Lib.hid ⟨Inv.zero (by decide),rfl,Pv.zero⟩
  clear b1 k1 g1 b2
  go_wp2_with fail
  go_loopg [25] k (fun gk v25 wr=>∃ (i:Nat) (o:Nat→Option Tag) (s:St),v25=.int .i64 (i:Int)∧Hid (i+gk=k)∧Hid (Inv ((200-i)*64064+64064) 0 s∧s.out=[]∧Pv s)∧Hid (Wk wr o c1 s)∧Hid (Far w o wr))
  case atStart=>exact ⟨0,p1,St.zero,rfl,Lib.hid (by omega),I2,K2,F2⟩
  case round =>
   clear F2 K2 I2
   obtain ⟨i,o,s,rfl,HK,HI,HW,HF⟩:=hrel
   by_cases hi:i<k
   ·obtain ⟨ad,rfl,hab,hcell⟩:=(L.below HF.out.1 (Nat.le_refl _)).num (j:=i*10) (by omega)
    have hli:(i:Int)<(k:Int):=by omega
    obtain ⟨W0,hW0⟩:∃ W0,W0=wr:=⟨_,rfl⟩
    subst hW0
    have x0:W0.cell? (ad.add (i*10))=some (.int .i64 (Z (i*10))):=hcell (i*10) (by omega)
    have x1:=cell_in (c:=0) (hcell (i*10+1) (by omega))
    have x2:=cell_in (c:=1) (hcell (i*10+2) (by omega))
    have x3:=cell_in (c:=2) (hcell (i*10+3) (by omega))
    have x4:=cell_in (c:=3) (hcell (i*10+4) (by omega))
    have x5:=cell_in (c:=4) (hcell (i*10+5) (by omega))
    have x6:=cell_in (c:=5) (hcell (i*10+6) (by omega))
    have x7:=cell_in (c:=6) (hcell (i*10+7) (by omega))
    have x8:=cell_in (c:=7) (hcell (i*10+8) (by omega))
    have x9:=cell_in (c:=8) (hcell (i*10+9) (by omega))
    obtain ⟨q0,hq0⟩:∃ q,Z (i*10)=q:=⟨_,rfl⟩
    obtain ⟨q1,hq1⟩:∃ q,Z (i*10+1)=q:=⟨_,rfl⟩
    obtain ⟨q2,hq2⟩:∃ q,Z (i*10+2)=q:=⟨_,rfl⟩
    obtain ⟨q3,hq3⟩:∃ q,Z (i*10+3)=q:=⟨_,rfl⟩
    obtain ⟨q4,hq4⟩:∃ q,Z (i*10+4)=q:=⟨_,rfl⟩
    obtain ⟨q5,hq5⟩:∃ q,Z (i*10+5)=q:=⟨_,rfl⟩
    obtain ⟨q6,hq6⟩:∃ q,Z (i*10+6)=q:=⟨_,rfl⟩
    obtain ⟨q7,hq7⟩:∃ q,Z (i*10+7)=q:=⟨_,rfl⟩
    obtain ⟨q8,hq8⟩:∃ q,Z (i*10+8)=q:=⟨_,rfl⟩
    obtain ⟨q9,hq9⟩:∃ q,Z (i*10+9)=q:=⟨_,rfl⟩
    rw [hq0] at x0
    rw [hq1] at x1
    rw [hq2] at x2
    rw [hq3] at x3
    rw [hq4] at x4
    rw [hq5] at x5
    rw [hq6] at x6
    rw [hq7] at x7
    rw [hq8] at x8
    rw [hq9] at x9
    clear hq0 hq1 hq2 hq3 hq4 hq5 hq6 hq7 hq8 hq9 hcell
    go_upto_region 9 with (fail)
    have hbox:=heap_alloc_new W0 (.cells #[.int .i64 q0,.int .i64 q1,.int .i64 q2,.int .i64 q3,.int .i64 q4,.int .i64 q5,.int .i64 q6,.int .i64 q7,.int .i64 q8,.int .i64 q9] 28)
    have b5:Below W0.heap.size W0 (W0.alloc (.cells #[.int .i64 q0,.int .i64 q1,.int .i64 q2,.int .i64 q3,.int .i64 q4,.int .i64 q5,.int .i64 q6,.int .i64 q7,.int .i64 q8,.int .i64 q9] 28)):=(Below.refl _ _).alloc (Nat.le_refl _) _
    have k5:=HW.out.below b5
    have f5:Far w o (W0.alloc (.cells #[.int .i64 q0,.int .i64 q1,.int .i64 q2,.int .i64 q3,.int .i64 q4,.int .i64 q5,.int .i64 q6,.int .i64 q7,.int .i64 q8,.int .i64 q9] 28)):=HF.out.side (Only.of_below (S:=fun _=>False) b5) (fun _ q=>q.elim)
    have hxn:o W0.heap.size=none:=HW.out.fresh (Nat.le_refl _)
    obtain ⟨x,hx⟩:∃ x,W0.heap.size=x:=⟨_,rfl⟩
    rw [hx] at hbox hxn
    try rw [hx]
    clear x0 x1 x2 x3 x4 x5 x6 x7 x8 x9 HW HF b5 hx hab
    generalize W0.alloc (.cells #[.int .i64 q0,.int .i64 q1,.int .i64 q2,.int .i64 q3,.int .i64 q4,.int .i64 q5,.int .i64 q6,.int .i64 q7,.int .i64 q8,.int .i64 q9] 28)=w5 at hbox k5 f5 ⊢
    have ⟨y0,y1,y2,y3,y4,y5,y6,y7,y8,y9⟩:=ev_cells hbox
    by_cases h40:q9≤40
    ·have dm:=l_mild w5 q0 q1 q2 q3 q4 q5 q6 q7 q8 q9
     rw [decide_eq_true h40] at dm
     clear h40
     go_wp2_with fail
     with_reducible refine dm.mono ?_
     rintro e w6 ⟨rfl,b56⟩
     have S6:Sk w5 o w6 o:=Sk.below b56
     have FX5:Fs w5 o x:=⟨hxn,lt_of_row hbox⟩
     have k6:=k5.below b56
     have f6:=f5.side (Only.of_below (S:=fun _=>False) b56) (fun _ q=>q.elim)
     have e6:=(S6 _ FX5).2.trans hbox
     have FX6:=(S6 _ FX5).1
     clear y0 y1 y2 y3 y4 y5 y6 y7 y8 y9 dm k5 f5 b56 hbox hxn S6 FX5
     have HI6:Hid (Inv ((200-(i+1))*64064+64064+64064) 0 s):=Lib.hid (HI.out.1.mono (by omega) (Nat.le_refl _))
     have hI7:=Inv.doE HI6.out ⟨q0,q1,q2,q3,q4,q5,q6,q7,q8,q9⟩
     have hO7:=doE_out HI.out.2.1 ⟨q0,q1,q2,q3,q4,q5,q6,q7,q8,q9⟩
     have hLN:=Inv.doL HI6.out ⟨q0,q1,q2,q3,q4,q5,q6,q7,q8,q9⟩
     have hPW:=pins_words HI6.out HI.out.2.2 HI.out.2.1 ⟨q0,q1,q2,q3,q4,q5,q6,q7,q8,q9⟩
     have dB:=c_Boxes k6 HI6.out
     obtain ⟨nb,hnb⟩:∃ nb,(ups s.mx s.last).length=nb:=⟨_,rfl⟩
     obtain ⟨TB,hTB⟩:∃ TB,s.box=TB:=⟨_,rfl⟩
     have hlim:nb<1073741824:=by rw [←hnb];have h1:=ups_le s.mx s.last;have h2:=HI6.out.last;omega
     have HLim:=Lib.hid hlim
     rw [hnb,hTB] at dB
     rw [hnb,hTB] at hPW
     clear hlim hnb hTB
     go_wp2_with fail
     with_reducible refine dB.mono ?_
     rintro e w7 ⟨g7,cap7,rfl,R7,hg7,b7⟩
     have S7:Sk w6 o w7 o:=Sk.below b7
     have k7:=k6.below b7
     have f7:=f6.side (Only.of_below (S:=fun _=>False) b7) (fun _ q=>q.elim)
     have e7:=(S7 _ FX6).2.trans e6
     have FX7:=(S7 _ FX6).1
     have FG7:Fs w7 o g7:=⟨k6.fresh hg7,R7.lt⟩
     have HE7:=Lib.hid e7
     clear dB k6 f6 hg7 b7 S7 e6 FX6 e7
     have ⟨y0,y1,y2,y3,y4,y5,y6,y7,y8,y9⟩:=ev_cells HE7.out
     have d1:=c_Do k7 HI6.out q0 q1 q2 q3 q4 q5 q6 q7 q8 q9
     obtain ⟨r,hr⟩:∃ r,s.doE ⟨q0,q1,q2,q3,q4,q5,q6,q7,q8,q9⟩=r:=⟨_,rfl⟩
     rw [hr] at d1 hI7 hO7 hLN hPW
     obtain ⟨s1,⟨b1,b2,b3,b4⟩,l⟩:=r
     have HI7:Hid (Inv ((200-(i+1))*64064+64064) 0 s1∧s1.out=[]∧Pv s1):=Lib.hid ⟨hI7,hO7,hPW.1⟩
     have HH0:=Lib.hid hPW.2.1
     have HC:=Lib.hid hPW.2.2
     obtain ⟨n,hn⟩:∃ n,l.length=n:=⟨_,rfl⟩
     have HLN:Hid (n≤1073741824):=Lib.hid (by rw [←hn];exact Nat.le_of_lt hLN)
     clear hr HI HI6 hI7 hO7 hPW hLN
     go_upto_region 12 with (first
      | (go_at_call 9;go_loud (with_reducible refine d1.mono ?_;rintro e w9 ⟨sv1,rfl,own10,G1,k9,n9,i9,g9⟩;have HX9:=new_ans w9))
      | (with_reducible refine wpList_store_ans rfl (.tmp 7) (.tmp 38) rfl w9.heap.size b1 b2 b3 b4 rfl rfl 0 0 0 0 HX9 ?_;intro w10 HG10 hg10))
     have o10:=ans_only hg10
     have S10:Sk w7 o w10 own10:=(Sk.nx n9).trans (Sk.new o10)
     have P10:=Lib.hid (k9.side o10 (fun j q=>k9.fresh (by omega)))
     have P10F:=Lib.hid ((f7.nx n9).side o10 (fun j q=>by have:=((f7.nx n9).1).size;omega))
     have HE10:=Lib.hid ((S10 _ FX7).2.trans HE7.out)
     have HR10:=Lib.hid (row_eqv R7 (S10 _ FG7).2)
     have i10:=i9.kept o10 (fun g e q=>by have:=i9.lt g e;omega)
     obtain ⟨T,hT⟩:∃ T,outT l=T:=⟨_,rfl⟩
     have HH:Hid (∀ u,u<nb→∀ p,p<n→(T p).1=false→(T p).2.1=(TB u).id→((TB u).p=true→q0=4∨q0=2)∧((TB u).q.st=2→q0=9)):=Lib.hid (by rw [←hn,←hT];exact HH0.out)
     rw [hn,hT] at i10
     obtain ⟨A2,c2,rfl,_⟩:=i10.slice
     have HL10:=Lib.hid i10
     obtain ⟨X,hX⟩:∃ X,w9.heap.size=X:=⟨_,rfl⟩
     rw [hX] at HG10
     try rw [hX]
     have HX10:=HG10
     clear y0 y1 y2 y3 y4 y5 y6 y7 y8 y9 HX9 d1 k7 f7 k9 n9 i9 g9 o10 hg10 HE7 hX S10 FX7 FG7 R7 i10 hn hT HH0 HG10
     go_wp2_with fail
     go_loopg [42] nb (fun gk vu wr=>∃ (u:Nat),vu=.int .i64 (u:Int)∧Hid (u+gk=nb)∧Hid (Below w10.heap.size w10 wr))
     case atStart=>exact ⟨0,rfl,Lib.hid (by omega),Lib.hid (Below.refl _ _)⟩
     case round =>
      obtain ⟨u,rfl,HU2,HB⟩:=hrel
      by_cases hu:u<nb
      ·have huI:(
             u:Int)<(nb:Int):=by omega
       have HU:=Lib.hid hu
       obtain ⟨W2,hW2⟩:∃ W2,W2=wr:=⟨_,rfl⟩
       subst hW2
       have hrow:=row_eqv HR10.out (HB.out.block _ HR10.out.lt)
       have ⟨x0,x1,x2,x3,x4,x5,x6,x7⟩:=box_cells hrow hu
       obtain ⟨v0,e0⟩:∃ v,(TB u).id=v:=⟨_,rfl⟩
       obtain ⟨v1,e1⟩:∃ v,(TB u).fn=v:=⟨_,rfl⟩
       obtain ⟨v2,e2⟩:∃ v,(TB u).ho=v:=⟨_,rfl⟩
       obtain ⟨v3,e3⟩:∃ v,(TB u).me=v:=⟨_,rfl⟩
       obtain ⟨v4,e4⟩:∃ v,(TB u).q.st=v:=⟨_,rfl⟩
       obtain ⟨v5,e5⟩:∃ v,(TB u).q.bd=v:=⟨_,rfl⟩
       obtain ⟨v6,e6⟩:∃ v,(TB u).p=v:=⟨_,rfl⟩
       obtain ⟨v7,e7⟩:∃ v,(TB u).t=v:=⟨_,rfl⟩
       rw [e0] at x0
       rw [e1] at x1
       rw [e2] at x2
       rw [e3] at x3
       rw [e4] at x4
       rw [e5] at x5
       rw [e6] at x6
       rw [e7] at x7
       have HV0:=Lib.hid e0
       have HV1:=Lib.hid e1
       have HV4:=Lib.hid e4
       have HV6:=Lib.hid e6
       clear e0 e1 e2 e3 e4 e5 e6 e7 hrow hu
       go_upto_region 15 with (fail)
       have hbx:=heap_alloc_new W2 (.cells #[.int .i64 v0,.int .i64 v1,.int .i64 v2,.int .i64 v3,.int .i64 v4,.bool v5,.bool v6,.int .i64 v7] 42)
       have b14:Below w10.heap.size w10 (W2.alloc (.cells #[.int .i64 v0,.int .i64 v1,.int .i64 v2,.int .i64 v3,.int .i64 v4,.bool v5,.bool v6,.int .i64 v7] 42)):=HB.out.trans (((Below.refl _ _).alloc (Nat.le_refl _) _).mono HB.out.size)
       have hl14:=its_below HL10.out b14
       have hev:=b14.block _ (lt_of_row HE10.out)
       rw [HE10.out] at hev
       have han:=b14.block _ (lt_of_row HX10.out)
       rw [HX10.out] at han
       clear x0 x1 x2 x3 x4 x5 x6 x7 HB
       obtain ⟨bm,hbm⟩:∃ bm,W2.heap.size=bm:=⟨_,rfl⟩
       rw [hbm] at hbx
       try rw [hbm]
       clear hbm
       generalize W2.alloc (.cells #[.int .i64 v0,.int .i64 v1,.int .i64 v2,.int .i64 v3,.int .i64 v4,.bool v5,.bool v6,.int .i64 v7] 42)=w14 at hbx b14 hl14 hev han ⊢
       have HBX:=Lib.hid hbx
       have HB14:=Lib.hid b14
       have HL14:=Lib.hid hl14
       have HE14:=Lib.hid hev
       have HX14:=Lib.hid han
       clear hbx b14 hl14 hev han
       go_wp2_with fail
       go_loopg [48] n (fun gk vp wr=>∃ (p:Nat),vp=.int .i64 (p:Int)∧Hid (p+gk=n)∧Hid (Below w14.heap.size w14 wr))
       case atStart=>exact ⟨0,rfl,Lib.hid (by omega),Lib.hid (Below.refl _ _)⟩
       case round =>
        obtain ⟨p,rfl,HP3,HB⟩:=hrel
        by_cases hp:p<n
        ·have hpI:(p:Int)<(n:Int):=by omega
         obtain ⟨g2,c2',_,e2,r2⟩:=(its_below HL14.out HB.out).some_ (by omega)
         injection e2 with e2 _ e2c
         subst e2
         subst e2c
         have ⟨z0,z1,z2,z3⟩:=cmd_cells r2 hp
         have hh:=HH.out u HU.out p hp
         obtain ⟨c0,f0⟩:∃ v,(T p).1=v:=⟨_,rfl⟩
         obtain ⟨c1,f1⟩:∃ v,(T p).2.1=v:=⟨_,rfl⟩
         obtain ⟨c2,f2⟩:∃ v,(T p).2.2.1=v:=⟨_,rfl⟩
         obtain ⟨c3,f3⟩:∃ v,(T p).2.2.2=v:=⟨_,rfl⟩
         rw [f0] at z0 hh
         rw [f1] at z1 hh
         rw [f2] at z2
         rw [f3] at z3
         rw [HV0.out,HV6.out,HV4.out] at hh
         have HHH:=Lib.hid hh
         clear f0 f1 f2 f3 hh r2
         obtain ⟨W3,hW3⟩:∃ W3,W3=wr:=⟨_,rfl⟩
         subst hW3
         go_upto_region 18 with (fail)
         have hcm:=heap_alloc_new W3 (.cells #[.bool c0,.int .i64 c1,.int .i64 c2,.int .i64 c3] 44)
         have b15:Below w14.heap.size w14 (W3.alloc (.cells #[.bool c0,.int .i64 c1,.int .i64 c2,.int .i64 c3] 44)):=HB.out.trans (((Below.refl _ _).alloc (Nat.le_refl _) _).mono HB.out.size)
         have hbx3:=b15.block _ (lt_of_row HBX.out)
         have hev3:=b15.block _ (lt_of_row HE14.out)
         rw [HBX.out] at hbx3
         rw [HE14.out] at hev3
         clear z0 z1 z2 z3 HB
         obtain ⟨km,hkm⟩:∃ km,W3.heap.size=km:=⟨_,rfl⟩
         rw [hkm] at hcm
         try rw [hkm]
         clear hkm
         generalize W3.alloc (.cells #[.bool c0,.int .i64 c1,.int .i64 c2,.int .i64 c3] 44)=w16 at hcm b15 hbx3 hev3 ⊢
         have HB16:=Lib.hid b15
         clear b15
         have d0:w16.cell? ⟨km,0,none⟩=some (.bool c0):=cellL hcm 0 _ rfl
         have d1:w16.cell? ⟨km,1,none⟩=some (.int .i64 c1):=cellL hcm 1 _ rfl
         have d2:w16.cell? ⟨bm,0,none⟩=some (.int .i64 v0):=cellL hbx3 0 _ rfl
         have d3:w16.cell? ⟨bm,6,none⟩=some (.bool v6):=cellL hbx3 6 _ rfl
         have d4:w16.cell? ⟨bm,4,none⟩=some (.int .i64 v4):=cellL hbx3 4 _ rfl
         have d5:w16.cell? ⟨x,0,none⟩=some (.int .i64 q0):=cellL hev3 0 _ rfl
         clear hcm hbx3 hev3
         cases c0 with
         | true =>
          clear HHH
          go_wp2_with fail
          go_roundg (n-(p+1))
          case measure=>have:=HP3.out;omega
          case rel=>exact ⟨p+1,by first | rfl | (rw [IntWalk.wrap64_in _ ⟨by omega,by have:=HLN.out;omega⟩];rfl),Lib.hid (by omega),HB16⟩
         | false =>
          by_cases h1:c1=v0
          ·subst h1
           have hh:=HHH.out rfl rfl
           clear HHH
           by_cases h4:v4=2
           ·subst h4
            have h9:(q0 != 9)=false:=by rw [hh.2 rfl];rfl
            cases v6 with
            | false =>
             clear hh
             go_wp2_with fail
             go_roundg (n-(p+1))
             case measure=>have:=HP3.out;omega
             case rel=>exact ⟨p+1,by first | rfl | (rw [IntWalk.wrap64_in _ ⟨by omega,by have:=HLN.out;omega⟩];rfl),Lib.hid (by omega),HB16⟩
            | true =>
             exfalso
             have h3:=hh.1 rfl
             have h5:=hh.2 rfl
             omega
           ·have h4b:(v4 == 2)=false:=by simpa using h4
            clear h4
            cases v6 with
            | false =>
             clear hh
             go_wp2_with fail
             go_roundg (n-(p+1))
             case measure=>have:=HP3.out;omega
             case rel=>exact ⟨p+1,by first | rfl | (rw [IntWalk.wrap64_in _ ⟨by omega,by have:=HLN.out;omega⟩];rfl),Lib.hid (by omega),HB16⟩
            | true =>
             have h3:=hh.1 rfl
             clear hh
             by_cases h44:q0=4
             ·have h44b:(q0 != 4)=false:=by rw [h44];rfl
              clear h44 h3
              go_wp2_with fail
              go_roundg (n-(p+1))
              case measure=>have:=HP3.out;omega
              case rel=>exact ⟨p+1,by first | rfl | (rw [IntWalk.wrap64_in _ ⟨by omega,by have:=HLN.out;omega⟩];rfl),Lib.hid (by omega),HB16⟩
             ·have h2b:(q0 != 2)=false:=by rw [show q0=2 by omega];rfl
              have h44b:(q0 != 4)=true:=by simpa using h44
              clear h44 h3
              go_wp2_with fail
              go_roundg (n-(p+1))
              case measure=>have:=HP3.out;omega
              case rel=>exact ⟨p+1,by first | rfl | (rw [IntWalk.wrap64_in _ ⟨by omega,by have:=HLN.out;omega⟩];rfl),Lib.hid (by omega),HB16⟩
          ·have h1b:(c1 == v0)=false:=by simpa using h1
           clear h1 HHH
           go_wp2_with fail
           go_roundg (n-(p+1))
           case measure=>have:=HP3.out;omega
           case rel=>exact ⟨p+1,by first | rfl | (rw [IntWalk.wrap64_in _ ⟨by omega,by have:=HLN.out;omega⟩];rfl),Lib.hid (by omega),HB16⟩
        ·have hpn:p=n:=by have:=HP3.out;omega
         subst hpn
         have b17:=HB14.out.trans (HB.out.mono HB14.out.size)
         have hbx4:=HB.out.block _ (lt_of_row HBX.out)
         rw [HBX.out] at hbx4
         have hev4:=HB.out.block _ (lt_of_row HE14.out)
         rw [HE14.out] at hev4
         have han4:=HB.out.block _ (lt_of_row HX14.out)
         rw [HX14.out] at han4
         have HB17:=Lib.hid b17
         have d1:wr.cell? ⟨bm,1,none⟩=some (.int .i64 v1):=cellL hbx4 1 _ rfl
         have d2:wr.cell? ⟨bm,4,none⟩=some (.int .i64 v4):=cellL hbx4 4 _ rfl
         have d3:wr.cell? ⟨x,0,none⟩=some (.int .i64 q0):=cellL hev4 0 _ rfl
         have d4:wr.cell? ⟨x,1,none⟩=some (.int .i64 q1):=cellL hev4 1 _ rfl
         have d5:wr.cell? ⟨X,0,none⟩=some (.int .i64 b1):=(an_cells han4).1
         clear b17 hbx4 hev4 han4 HB HBX HE14 HX14
         obtain ⟨W4,hW4⟩:∃ W4,W4=wr:=⟨_,rfl⟩
         subst hW4
         have hc:=HC.out
         by_cases h6:q0=6
         ·have h6b:(q0 == 6)=true:=by rw [h6];rfl
          by_cases h3:b1=3
          ·have h3b:(b1 == 3)=true:=by rw [h3];rfl
           have hc2:=hc h6 h3 u HU.out
           rw [HV1.out,HV4.out] at hc2
           clear h6 h3 hc
           by_cases h7:v1=q1
           ·have h7b:(v1 == q1)=true:=by rw [h7];simp
            have h8b:(v4 == 1)=false:=by simpa using hc2 h7
            clear h7 hc2
            go_wp2_with fail
            go_roundg (nb-(u+1))
            case measure=>have:=HU2.out;omega
            case rel=>exact ⟨u+1,by first | rfl | (rw [IntWalk.wrap64_in _ ⟨by omega,by have:=HLim.out;omega⟩];rfl),Lib.hid (by omega),HB17⟩
           ·have h7b:(v1 == q1)=false:=by simpa using h7
            clear h7 hc2
            go_wp2_with fail
            go_roundg (nb-(u+1))
            case measure=>have:=HU2.out;omega
            case rel=>exact ⟨u+1,by first | rfl | (rw [IntWalk.wrap64_in _ ⟨by omega,by have:=HLim.out;omega⟩];rfl),Lib.hid (by omega),HB17⟩
          ·have h3b:(b1 == 3)=false:=by simpa using h3
           clear h3 h6 hc
           go_wp2_with fail
           go_roundg (nb-(u+1))
           case measure=>have:=HU2.out;omega
           case rel=>exact ⟨u+1,by first | rfl | (rw [IntWalk.wrap64_in _ ⟨by omega,by have:=HLim.out;omega⟩];rfl),Lib.hid (by omega),HB17⟩
         ·have h6b:(q0 == 6)=false:=by simpa using h6
          clear h6 hc
          go_wp2_with fail
          go_roundg (nb-(u+1))
          case measure=>have:=HU2.out;omega
          case rel=>exact ⟨u+1,by first | rfl | (rw [IntWalk.wrap64_in _ ⟨by omega,by have:=HLim.out;omega⟩];rfl),Lib.hid (by omega),HB17⟩
      ·have hun:u=nb:=by have:=HU2.out;omega
       subst hun
       have k12:=P10.out.below HB.out
       have f12:Far w own10 wr:=P10F.out.side (Only.of_below (S:=fun _=>False) HB.out) (fun _ q=>q.elim)
       clear HR10 HL10 HE10 HX10 HH HC HB HLim HLN P10 P10F
       have dC:=c_Boxes k12 HI7.out.1
       have hend:=HI7.out.2.2.ended HI7.out.1
       obtain ⟨nc,hnc⟩:∃ nc,(ups s1.mx s1.last).length=nc:=⟨_,rfl⟩
       have hbnd:∀ u,u<nc→1≤(s1.box u).id∧(s1.box u).id≤s1.last:=fun u hu=>(box_at HI7.out.1 (by rw [hnc];exact hu)).2.2
       have hlim4:nc<1073741824:=by rw [←hnc];have h1:=ups_le s1.mx s1.last;have h2:=HI7.out.1.last;omega
       unfold Ended at hend
       rw [hnc] at dC hend
       have HLim4:=Lib.hid hlim4
       have HEN:=Lib.hid hend
       have HBD:=Lib.hid hbnd
       clear hlim4 hend hbnd hnc
       go_wp2_with fail
       with_reducible refine dC.mono ?_
       rintro e w13 ⟨g4,cap4,rfl,R13,hg4,b13⟩
       have K13:=Lib.hid (k12.below b13)
       have F13:=Lib.hid (f12.side (Only.of_below (S:=fun _=>False) b13) (fun _ q=>q.elim))
       have G13:Hid (Fs w13 own10 g4∧Row brow 8 42 w13 g4 nc cap4 s1.box):=Lib.hid ⟨⟨k12.fresh hg4,R13.lt⟩,R13⟩
       clear dC k12 f12 R13 hg4 b13
       go_wp2_with fail
       go_loopg [111] nc (fun gk vu wr=>∃ (u:Nat) (o:Nat→Option Tag),vu=.int .i64 (u:Int)∧Hid (u+gk=nc)∧Hid (Wk wr o c1 s1)∧Hid (Far w o wr)∧Hid (Fs wr o g4∧Row brow 8 42 wr g4 nc cap4 s1.box))
       case atStart=>exact ⟨0,own10,rfl,Lib.hid (by omega),K13,F13,G13⟩
       case round =>
        clear K13 F13 G13
        obtain ⟨u,o,rfl,HU2,HW,HF,HG⟩:=hrel
        by_cases hu:u<nc
        ·have huI:(u:Int)<(nc:Int):=by omega
         have HU:=Lib.hid hu
         obtain ⟨W4,hW4⟩:∃ W4,W4=wr:=⟨_,rfl⟩
         subst hW4
         have hrow:=HG.out.2
         have hen:=HEN.out u hu
         have hbd:=HBD.out u hu
         have ⟨x0,x1,x2,x3,x4,x5,x6,x7⟩:=box_cells hrow hu
         obtain ⟨v0,e0⟩:∃ v,(s1.box u).id=v:=⟨_,rfl⟩
         obtain ⟨v1,e1⟩:∃ v,(s1.box u).fn=v:=⟨_,rfl⟩
         obtain ⟨v2,e2⟩:∃ v,(s1.box u).ho=v:=⟨_,rfl⟩
         obtain ⟨v3,e3⟩:∃ v,(s1.box u).me=v:=⟨_,rfl⟩
         obtain ⟨v4,e4⟩:∃ v,(s1.box u).q.st=v:=⟨_,rfl⟩
         obtain ⟨v5,e5⟩:∃ v,(s1.box u).q.bd=v:=⟨_,rfl⟩
         obtain ⟨v6,e6⟩:∃ v,(s1.box u).p=v:=⟨_,rfl⟩
         obtain ⟨v7,e7⟩:∃ v,(s1.box u).t=v:=⟨_,rfl⟩
         rw [e0] at x0
         rw [e1] at x1
         rw [e2] at x2
         rw [e3] at x3
         rw [e4] at x4
         rw [e5] at x5
         rw [e6] at x6
         rw [e7] at x7
         rw [e0] at hbd
         rw [e0,e4,e6] at hen
         clear e0 e1 e2 e3 e4 e5 e6 e7 hrow hu
         go_upto_region 27 with (fail)
         have hbx:=heap_alloc_new W4 (.cells #[.int .i64 v0,.int .i64 v1,.int .i64 v2,.int .i64 v3,.int .i64 v4,.bool v5,.bool v6,.int .i64 v7] 42)
         have b14:Below W4.heap.size W4 (W4.alloc (.cells #[.int .i64 v0,.int .i64 v1,.int .i64 v2,.int .i64 v3,.int .i64 v4,.bool v5,.bool v6,.int .i64 v7] 42)):=(Below.refl _ _).alloc (Nat.le_refl _) _
         have k14:=HW.out.below b14
         have f14:Far w o (W4.alloc (.cells #[.int .i64 v0,.int .i64 v1,.int .i64 v2,.int .i64 v3,.int .i64 v4,.bool v5,.bool v6,.int .i64 v7] 42)):=HF.out.side (Only.of_below (S:=fun _=>False) b14) (fun _ q=>q.elim)
         have S14:Sk W4 o (W4.alloc (.cells #[.int .i64 v0,.int .i64 v1,.int .i64 v2,.int .i64 v3,.int .i64 v4,.bool v5,.bool v6,.int .i64 v7] 42)) o:=Sk.below b14
         have hbn:o W4.heap.size=none:=HW.out.fresh (Nat.le_refl _)
         have g14:=HG.out
         clear x0 x1 x2 x3 x4 x5 x6 x7 HW HF HG b14
         obtain ⟨bm,hbm⟩:∃ bm,W4.heap.size=bm:=⟨_,rfl⟩
         rw [hbm] at hbx hbn
         try rw [hbm]
         clear hbm
         have g14b:Fs (W4.alloc (.cells #[.int .i64 v0,.int .i64 v1,.int .i64 v2,.int .i64 v3,.int .i64 v4,.bool v5,.bool v6,.int .i64 v7] 42)) o g4∧Row brow 8 42 (W4.alloc (.cells #[.int .i64 v0,.int .i64 v1,.int .i64 v2,.int .i64 v3,.int .i64 v4,.bool v5,.bool v6,.int .i64 v7] 42)) g4 nc cap4 s1.box:=⟨(S14 _ g14.1).1,row_eqv g14.2 (S14 _ g14.1).2⟩
         clear S14 g14
         generalize W4.alloc (.cells #[.int .i64 v0,.int .i64 v1,.int .i64 v2,.int .i64 v3,.int .i64 v4,.bool v5,.bool v6,.int .i64 v7] 42)=w14 at hbx k14 f14 g14b ⊢
         have hl:=HI7.out.1.last
         have dE:=c_Ends k14 HI7.out.1 (by omega) v0 ⟨rfl,wfK (by omega) (by omega)⟩
         have FB:Fs w14 o bm:=⟨hbn,lt_of_row hbx⟩
         have d0:w14.cell? ⟨bm,0,none⟩=some (.int .i64 v0):=cellL hbx 0 _ rfl
         obtain ⟨okv,hok⟩:∃ okv,(s1.T (0,v0)).isSome=okv:=⟨_,rfl⟩
         rw [hok] at dE hen
         have HEV:=Lib.hid hen
         clear hl hok hen hbd hbn
         go_upto_region 28 with (first
          | (go_at_call 10;go_loud (with_reducible refine dE.mono ?_;rintro e w15 ⟨rfl,o15,k15,n15⟩)))
         have S15:=Sk.nx n15
         have K15:=Lib.hid k15
         have F15:=Lib.hid (f14.nx n15)
         have G15:=Lib.hid (And.intro (S15 _ g14b.1).1 (row_eqv g14b.2 (S15 _ g14b.1).2))
         have hbx5:=(S15 _ FB).2.trans hbx
         clear d0 dE k14 f14 g14b FB k15 n15 S15 hbx
         have d1:w15.cell? ⟨bm,4,none⟩=some (.int .i64 v4):=cellL hbx5 4 _ rfl
         have d2:w15.cell? ⟨bm,6,none⟩=some (.bool v6):=cellL hbx5 6 _ rfl
         clear hbx5
         have hv:=HEV.out
         clear HEV
         by_cases h1:v4=1
         ·have h1b:(v4 == 1)=true:=by rw [h1];rfl
          rw [h1b] at hv
          clear h1
          cases v6 with
          | false =>
           obtain rfl:okv=true:=hv
           go_wp2_with fail
           go_roundg (nc-(u+1))
           case measure=>have:=HU2.out;omega
           case rel=>exact ⟨u+1,o15,by first | rfl | (rw [IntWalk.wrap64_in _ ⟨by omega,by have:=HLim4.out;omega⟩];rfl),Lib.hid (by omega),K15,F15,G15⟩
          | true =>
           obtain rfl:okv=false:=hv
           go_wp2_with fail
           go_roundg (nc-(u+1))
           case measure=>have:=HU2.out;omega
           case rel=>exact ⟨u+1,o15,by first | rfl | (rw [IntWalk.wrap64_in _ ⟨by omega,by have:=HLim4.out;omega⟩];rfl),Lib.hid (by omega),K15,F15,G15⟩
         ·have h1b:(v4 == 1)=false:=by simpa using h1
          rw [h1b] at hv
          obtain rfl:okv=false:=hv
          clear h1
          go_wp2_with fail
          go_roundg (nc-(u+1))
          case measure=>have:=HU2.out;omega
          case rel=>exact ⟨u+1,o15,by first | rfl | (rw [IntWalk.wrap64_in _ ⟨by omega,by have:=HLim4.out;omega⟩];rfl),Lib.hid (by omega),K15,F15,G15⟩
        ·have hun:u=nc:=by have:=HU2.out;omega
         subst hun
         go_wp2_with fail
         go_roundg (k-(i+1))
         case measure=>have:=HK.out;omega
         case rel=>exact ⟨i+1,o,s1,rfl,Lib.hid (by omega),HI7,HW,HF⟩
    ·have dm:=l_mild w5 q0 q1 q2 q3 q4 q5 q6 q7 q8 q9
     rw [decide_eq_false h40] at dm
     clear h40
     go_wp2_with fail
     with_reducible refine dm.mono ?_
     rintro e w6 ⟨rfl,b56⟩
     have K6:=Lib.hid (k5.below b56)
     have F6:=Lib.hid (f5.side (Only.of_below (S:=fun _=>False) b56) (fun _ q=>q.elim))
     clear y0 y1 y2 y3 y4 y5 y6 y7 y8 y9 dm k5 f5 b56 hbox hxn
     go_wp2_with fail
     go_roundg (k-(i+1))
     case measure=>have:=HK.out;omega
     case rel=>exact ⟨i+1,o,s,rfl,Lib.hid (by omega),Lib.hid ⟨HI.out.1.mono (by omega) (Nat.le_refl _),HI.out.2⟩,K6,F6⟩
   ·have hik:i=k:=by have:=HK.out;omega
    subst hik
    go_wp2_with fail
    go_ret
    exact ⟨rfl,HF.out.1⟩
end Go.Proofs.YtnmheoagiilmiaaGreat.W.C
