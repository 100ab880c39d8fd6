import Derived.Test.YtgdpepoopicabaaGreatCcM
import Derived.Test.YtgdpepoopicabaaGreatCcP
/- A part of what core's laws stand on. -/
set_option linter.unusedVariables false
set_option linter.unusedSimpArgs false
set_option maxRecDepth 100000
set_option maxHeartbeats 6400000
namespace Go.Proofs.YtgdpepoopicabaaGreat.W.C
open Go.RowKit Go.Proofs.YtgdpepoopicabaaGreat.W
attribute [local go_sem] Oper.semAt_some
theorem wr_in {x:Int} (h0:-9223372036854775808≤x) (h1:x≤9223372036854775807):IntKind.i64.wrap x=x:=by rw [IntKind.wrap_i64];omega
theorem kw01:HT.kw (0,1):=⟨rfl,rfl⟩
theorem eU_first (a:Int):eU a (1-1)=eD a a:=by
 unfold eU
 rw [if_pos (by decide),show a+(1-1)=a by omega]
theorem eU_ups1 {a j:Int} (h:j<10):(ups (eU a j).mx (eU a j).last).length=1:=by
 unfold eU
 rw [if_pos h];rfl
theorem eU_ups0 {a j:Int} (h:¬ j<10):(ups (eU a j).mx (eU a j).last).length=0:=by
 unfold eU
 rw [if_neg h];rfl
theorem eD_last (a:Int):0<(eD a a).last:=by show (0:Int)<1;decide
theorem eL_none {j:Int} (h:j≠9):eL j=[]:=if_neg h
theorem eL_one {j:Int} (h:j=9):eL j=[(false,1,0,0)]:=if_pos h
theorem ends_walk (x0 x1:Int) (w:World):Calls Tryz.prog 3 #[.int .i64 x0,.int .i64 x1] w fun e w'=>e=.returned (.bool true)∧Below w.heap.size w w':=by
 obtain ⟨n,hn,hn16⟩:=and_nat x0 15 4 16 (by decide) (by decide) (by decide)
 obtain ⟨x,hx,hx8⟩:=and_nat x1 7 3 8 (by decide) (by decide) (by decide)
 obtain ⟨a,ha⟩:∃ a:Int,(n:Int)=a:=⟨_,rfl⟩
 obtain ⟨b,hb⟩:∃ b:Int,(x:Int)=b:=⟨_,rfl⟩
 rw [ha] at hn
 rw [hb] at hx
 obtain ⟨m,hm⟩:∃ m:Int,10+b=m:=⟨_,rfl⟩
 have hw1:IntKind.i64.wrap (a+10)=a+10:=wr_in (by omega) (by omega)
 have hw2:IntKind.i64.wrap (10+b)=m:=by rw [wr_in (by omega) (by omega)];exact hm
 have HA:Hid ((n:Int)=a∧n<16∧10+(x:Int)=m∧x<8):=Lib.hid ⟨ha,hn16,by omega,hx8⟩
 clear ha hb hn16 hx8 hm
 have I0:Inv (64064*60+64064) 0 St.zero:=Inv.zero (by decide)
 have I1:=Inv.doE (K:=64064*60) I0 ⟨1,0,5,5,0,0,0,0,0,0⟩
 rw [ea1] at I1
 have I2:=Inv.doE (K:=64064*59) I1 ⟨2,0,0,0,0,0,1,1,0,0⟩
 rw [ea2] at I2
 have I3:=Inv.doE (K:=64064*58) I2 ⟨3,0,0,9,0,0,0,0,0,0⟩
 rw [ea3] at I3
 have I4:=Inv.doE (K:=64064*57) I3 ⟨6,0,0,0,0,0,0,0,0,0⟩
 rw [ea4] at I4
 have HI:=Lib.hid (And.intro I0 (And.intro I1 (And.intro I2 (And.intro I3 I4))))
 clear I0 I1 I2 I3 I4
 go_enter Tryz.func3,Tryz.ntmps3
 go_wp2_with fail
 with_reducible refine (l_head _).mono ?_
 rintro e w1 ⟨rfl,b1⟩
 go_wp2_with fail
 with_reducible refine (c_NewW w1).mono ?_
 rintro e w2 ⟨c,o2,rfl,k2,_,g2,b2⟩
 have F2:Hid (Far w o2 w2):=Lib.hid ⟨b1.trans (b2.mono b1.size),fun j q=>Nat.le_trans b1.size (g2 j q)⟩
 clear b1 g2 b2
 have d1:=c_Do k2 (K:=64064*60) HI.out.1 1 0 5 5 0 0 0 0 0 0
 rw [ea1] at d1
 go_wp2_with fail
 with_reducible refine d1.mono ?_
 rintro e w3 ⟨sv1,rfl,o3,G3,k3,n3,_,_⟩
 have F3:=Lib.hid (F2.out.nx n3)
 clear F2 n3 k2 d1
 have d2:=c_Do k3 (K:=64064*59) HI.out.2.1 2 0 0 0 0 0 1 1 0 0
 rw [ea2] at d2
 go_wp2_with fail
 with_reducible refine d2.mono ?_
 rintro e w4 ⟨sv2,rfl,o4,G4,k4,n4,_,_⟩
 have F4:=Lib.hid (F3.out.nx n4)
 clear F3 n4 k3 d2
 have d3:=c_Do k4 (K:=64064*58) HI.out.2.2.1 3 0 0 9 0 0 0 0 0 0
 rw [ea3] at d3
 go_wp2_with fail
 with_reducible refine d3.mono ?_
 rintro e w5 ⟨sv3,rfl,o5,G5,k5,n5,_,_⟩
 have F5:=Lib.hid (F4.out.nx n5)
 clear F4 n5 k4 d3
 have d4:=c_Do k5 (K:=64064*57) HI.out.2.2.2.1 6 0 0 0 0 0 0 0 0 0
 rw [ea4] at d4
 go_upto_region 10 with (first
  | (go_at_call 8;go_loud (with_reducible refine d4.mono ?_;rintro e w6 ⟨sv4,rfl,o6,G6,k6,n6,_,_⟩;have HX6:=new_ans w6))
  | (with_reducible refine wpList_store_ans rfl (.tmp 6) (.tmp 34) rfl w6.heap.size 3 1 0 0 rfl rfl 0 0 0 0 HX6 ?_;intro w7 HG7 hg7))
 have q7:=ans_only hg7
 have F7:=Lib.hid ((F5.out.nx n6).side q7 (fun j q=>by have:=((F5.out.nx n6).1).size;omega))
 have k7:=Lib.hid (k6.side q7 (fun j q=>k6.fresh (by omega)))
 have I7:Hid (Inv ((40+n)*64064) 0 (eW 0)):=Lib.hid (HI.out.2.2.2.2.mono (by have:=HA.out.2.1;omega) (Nat.le_refl _))
 have ⟨u0,u1,u2,u3⟩:=an_cells HG7.out
 obtain ⟨X,hX⟩:∃ X,w6.heap.size=X:=⟨_,rfl⟩
 try rw [hX]
 try rw [hX] at u0 u1 u2 u3
 clear q7 hg7 HX6 F5 n6 k5 k6 d4 HI HG7 hX
 go_upto_region 12 with (fail)
 clear u0 u1 u2 u3
 go_wp2_with fail
 go_loopg [8] n (fun gk v8 wr=>∃ (i:Int) (o:Nat→Option Tag),v8=.int .i64 i∧Hid (i+gk=a∧0≤i)∧Hid (Wk wr o c (eW i))∧Hid (Far w o wr)∧Hid (Inv ((40+gk)*64064) 0 (eW i)))
 case atStart=>exact ⟨0,o6,rfl,Lib.hid (by have:=HA.out.1;omega),k7,F7,I7⟩
 case round =>
  clear F7 k7 I7
  obtain ⟨i,o,rfl,HK,HW,HF,HJ⟩:=hrel
  by_cases hi:i<a
  ·have hgk:gk=gk-1+1:=by have:=HK.out;omega
   have hJ:Inv ((40+(gk-1))*64064+64064) 0 (eW i):=HJ.out.mono (by omega) (Nat.le_refl _)
   have hJ2:=Inv.doE hJ ⟨0,0,0,0,0,0,0,0,0,0⟩
   have d:=c_Do HW.out hJ 0 0 0 0 0 0 0 0 0 0
   rw [eaW (by have:=HA.out;have:=HK.out;omega)] at d hJ2
   have HJ2:=Lib.hid hJ2
   have hwi:IntKind.i64.wrap (i+1)=i+1:=wr_in (by have:=HA.out;have:=HK.out;omega) (by have:=HA.out;omega)
   clear hJ hJ2 hgk
   go_wp2_with fail
   with_reducible refine d.mono ?_
   rintro e w8 ⟨sv,rfl,o8,G8,k8,n8,_,_⟩
   have HW8:=Lib.hid k8
   have HF8:=Lib.hid (HF.out.nx n8)
   clear d k8 n8 HW HF
   go_wp2_with fail
   go_roundg (gk-1)
   case measure=>have:=HK.out;omega
   case rel=>exact ⟨i+1,o8,rfl,Lib.hid (by have:=HK.out;omega),HW8,HF8,HJ2⟩
  ·obtain rfl:i=a:=by have:=HK.out;omega
   have hJ:Inv (64064*38+64064) 0 (eW i):=HJ.out.mono (by omega) (Nat.le_refl _)
   have hJ2:=Inv.doE hJ ⟨7,1,0,0,0,0,0,0,0,0⟩
   rw [eaB] at hJ2
   have hJ3:=Inv.doE (K:=64064*37) hJ2 ⟨9,1,0,0,0,0,0,0,0,0⟩
   rw [eaD] at hJ3
   have HI:=Lib.hid (And.intro hJ (And.intro hJ2 hJ3))
   clear hJ hJ2 hJ3 HJ
   have d5:=c_Do HW.out HI.out.1 7 1 0 0 0 0 0 0 0 0
   rw [eaB] at d5
   go_wp2_with fail
   with_reducible refine d5.mono ?_
   rintro e w8 ⟨sv5,rfl,o8,G8,k8,n8,_,_⟩
   have F8:=Lib.hid (HF.out.nx n8)
   clear d5 n8 HW HF
   have d6:=c_Do k8 (K:=64064*37) HI.out.2.1 9 1 0 0 0 0 0 0 0 0
   rw [eaD] at d6
   go_wp2_with fail
   with_reducible refine d6.mono ?_
   rintro e w9 ⟨sv6,rfl,o9,G9,k9,n9,_,_⟩
   have F9:=Lib.hid (F8.out.nx n9)
   clear d6 k8 n9 F8
   have dE:=c_Ends k9 HI.out.2.2 (eD_last i) 1 kw01
   rw [eD_T,if_pos rfl] at dE
   go_upto_region 19 with (first
    | (go_at_call 9;go_loud (with_reducible refine dE.mono ?_;rintro e w10 ⟨rfl,o10,k10,n10⟩)))
   have F10:=Lib.hid (F9.out.nx n10)
   have I10:Hid (Inv ((10+(10+x))*64064) 0 (eU i (1-1))):=Lib.hid (by rw [eU_first];exact HI.out.2.2.mono (by have:=HA.out;omega) (Nat.le_refl _))
   have K10:Hid (Wk w10 o10 c (eU i (1-1))):=Lib.hid (by rw [eU_first];exact k10)
   clear k10 n10 dE k9 F9 HI
   go_upto_region 21 with (fail)
   go_wp2_with fail
   go_loopg [11] (10+x) (fun gk v11 wr=>∃ (j:Int) (o:Nat→Option Tag),v11=.int .i64 j∧Hid (j+gk=m+1∧1≤j)∧Hid (Wk wr o c (eU i (j-1)))∧Hid (Far w o wr)∧Hid (Inv ((10+gk)*64064) 0 (eU i (j-1))))
   case atStart=>exact ⟨1,o10,rfl,Lib.hid (by have:=HA.out;omega),K10,F10,I10⟩
   case round =>
    clear F10 K10 I10
    obtain ⟨j,o,rfl,HK2,HW,HF,HJ⟩:=hrel
    by_cases hj:j≤m
    ·have hJ:Inv ((10+(gk-1))*64064+64064) 0 (eU i (j-1)):=HJ.out.mono (by have:=HK2.out;omega) (Nat.le_refl _)
     have hJ2:=Inv.doE hJ ⟨0,0,0,0,0,0,0,0,0,0⟩
     have d:=c_Do HW.out hJ 0 0 0 0 0 0 0 0 0 0
     rw [eaU (by have:=HA.out;omega) (by have:=HA.out;have:=HK2.out;omega),show j-1+1=j+1-1 by omega] at d hJ2
     have HJ2:=Lib.hid hJ2
     have hwj:IntKind.i64.wrap (j+1)=j+1:=wr_in (by have:=HA.out;have:=HK2.out;omega) (by have:=HA.out;omega)
     have HO:Hid (¬ (1:Int)≤0):=Lib.hid (by decide)
     clear hJ hJ2 HJ
     rcases Int.lt_trichotomy j 10 with h10 | rfl | h10
     ·rw [eL_none (by omega)] at d
      go_upto_region 25 with (first
       | (go_at_call 8;go_loud (with_reducible refine d.mono ?_;rintro e w11 ⟨sv,rfl,o11,G11,k11,n11,i11,_⟩;have HX11:=new_ans w11))
       | (with_reducible refine wpList_store_ans rfl (.tmp 12) (.tmp 76) rfl w11.heap.size 0 0 0 0 rfl rfl 0 0 0 0 HX11 ?_;intro w12 HG12 hg12))
      have q12:=ans_only hg12
      have k12:=k11.side q12 (fun j q=>k11.fresh (by omega))
      have F12:=Lib.hid ((HF.out.nx n11).side q12 (fun j q=>by have:=((HF.out.nx n11).1).size;omega))
      obtain ⟨A,cp,rfl,_⟩:=i11.slice
      have dB:=c_Boxes k12 HJ2.out
      rw [eU_ups1 (by omega)] at dB
      have hd1:(j == 10)=false:=by simp;omega
      have hd2:decide (j<10)=true:=by simpa using h10
      obtain ⟨Y,hY⟩:∃ Y,w11.heap.size=Y:=⟨_,rfl⟩
      try rw [hY]
      clear hg12 q12 k11 n11 i11 d HX11 HG12 hY HW HF h10
      go_upto_region 27 with (first
       | (go_at_call 10;go_loud (with_reducible refine dB.mono ?_;rintro e w13 ⟨g13,cap13,rfl,_,_,b13⟩)))
      have HW13:=Lib.hid (k12.below b13)
      have HF13:=Lib.hid (F12.out.side (Only.of_below (S:=fun _=>False) b13) (fun _ q=>q.elim))
      clear dB k12 F12 b13
      go_wp2_with fail
      go_roundg (gk-1)
      case measure=>have:=HK2.out;omega
      case rel=>exact ⟨j+1,o11,rfl,Lib.hid (by have:=HK2.out;omega),HW13,HF13,HJ2⟩
     ·rw [eL_one (by decide)] at d
      go_upto_region 25 with (first
       | (go_at_call 8;go_loud (with_reducible refine d.mono ?_;rintro e w11 ⟨sv,rfl,o11,G11,k11,n11,i11,_⟩;have HX11:=new_ans w11))
       | (with_reducible refine wpList_store_ans rfl (.tmp 12) (.tmp 76) rfl w11.heap.size 0 0 0 0 rfl rfl 0 0 0 0 HX11 ?_;intro w12 HG12 hg12))
      have q12:=ans_only hg12
      have k12:=k11.side q12 (fun j q=>k11.fresh (by omega))
      have F12:=Lib.hid ((HF.out.nx n11).side q12 (fun j q=>by have:=((HF.out.nx n11).1).size;omega))
      have i12:=i11.kept q12 (fun g e q=>by have:=i11.lt g e;omega)
      obtain ⟨g4,c4,_,rfl,r12⟩:=i12.some_ (by decide)
      have R12:=Lib.hid r12
      clear r12 i12
      have dB:=c_Boxes k12 HJ2.out
      rw [eU_ups0 (by decide)] at dB
      obtain ⟨Y,hY⟩:∃ Y,w11.heap.size=Y:=⟨_,rfl⟩
      try rw [hY]
      clear hg12 q12 k11 n11 i11 d HX11 HG12 hY HW HF hwj
      go_upto_region 27 with (first
       | (go_at_call 10;go_loud (with_reducible refine dB.mono ?_;rintro e w13 ⟨g13,cap13,rfl,_,_,b13⟩)))
      have HW13:=Lib.hid (k12.below b13)
      have HF13:=Lib.hid (F12.out.side (Only.of_below (S:=fun _=>False) b13) (fun _ q=>q.elim))
      have r13:=R12.out.kept (Only.of_below (S:=fun _=>False) b13) (fun q=>q)
      obtain ⟨z0,z1,z2,z3⟩:=cmd_cells r13 (k:=0) (by decide)
      clear dB k12 F12 b13 r13 R12
      go_wp2_with fail
      go_roundg (gk-1)
      case measure=>have:=HK2.out;omega
      case rel=>exact ⟨10+1,o11,rfl,Lib.hid (by have:=HK2.out;omega),HW13,HF13,HJ2⟩
     ·rw [eL_none (by omega)] at d
      go_upto_region 25 with (first
       | (go_at_call 8;go_loud (with_reducible refine d.mono ?_;rintro e w11 ⟨sv,rfl,o11,G11,k11,n11,i11,_⟩;have HX11:=new_ans w11))
       | (with_reducible refine wpList_store_ans rfl (.tmp 12) (.tmp 76) rfl w11.heap.size 0 0 0 0 rfl rfl 0 0 0 0 HX11 ?_;intro w12 HG12 hg12))
      have q12:=ans_only hg12
      have k12:=k11.side q12 (fun j q=>k11.fresh (by omega))
      have F12:=Lib.hid ((HF.out.nx n11).side q12 (fun j q=>by have:=((HF.out.nx n11).1).size;omega))
      obtain ⟨A,cp,rfl,_⟩:=i11.slice
      have dB:=c_Boxes k12 HJ2.out
      rw [eU_ups0 (by omega)] at dB
      have hd1:(j == 10)=false:=by simp;omega
      have hd2:decide (j<10)=false:=by simp;omega
      obtain ⟨Y,hY⟩:∃ Y,w11.heap.size=Y:=⟨_,rfl⟩
      try rw [hY]
      clear hg12 q12 k11 n11 i11 d HX11 HG12 hY HW HF h10
      go_upto_region 27 with (first
       | (go_at_call 10;go_loud (with_reducible refine dB.mono ?_;rintro e w13 ⟨g13,cap13,rfl,_,_,b13⟩)))
      have HW13:=Lib.hid (k12.below b13)
      have HF13:=Lib.hid (F12.out.side (Only.of_below (S:=fun _=>False) b13) (fun _ q=>q.elim))
      clear dB k12 F12 b13
      go_wp2_with fail
      go_roundg (gk-1)
      case measure=>have:=HK2.out;omega
      case rel=>exact ⟨j+1,o11,rfl,Lib.hid (by have:=HK2.out;omega),HW13,HF13,HJ2⟩
    ·go_wp2_with fail
     go_ret
     exact ⟨rfl,HF.out.1⟩
end Go.Proofs.YtgdpepoopicabaaGreat.W.C
