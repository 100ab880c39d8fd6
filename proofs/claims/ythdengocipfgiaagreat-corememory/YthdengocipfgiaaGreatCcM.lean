import Derived.Test.YthdengocipfgiaaGreatCcK
import Derived.Test.YthdengocipfgiaaGreatCcL
/- A part of what core's laws stand on. -/
set_option linter.unusedVariables false
set_option linter.unusedSimpArgs false
set_option maxRecDepth 100000
set_option maxHeartbeats 3200000
namespace Go.Proofs.YthdengocipfgiaaGreat.W.C
open Go.RowKit Go.Proofs.YthdengocipfgiaaGreat.W
theorem keep_as {s:St} {f:Int} (h:(s.G f).keep=((s.G f).pi.n:Int)):s.keep f=s:=by
 unfold St.keep;rw [if_neg (by omega),if_neg (by omega)]
theorem keepAll_same {s:St} (h:∀ f,(s.fu.a f).isSome=true→(s.G f).keep=((s.G f).pi.n:Int)):∀ n,s.keepAll n=s
 | 0=>rfl
 | n+1=>by
  unfold St.keepAll;rw [keepAll_same h n];dsimp only
  split
  ·rename_i q;exact keep_as (h _ q)
  ·rfl
def hx1:Ev:=⟨1,0,1,1,0,0,0,0,0,0⟩
def hx2:Ev:=⟨2,0,0,0,0,0,2,1,0,0⟩
def hx3:Ev:=⟨3,0,0,2,0,0,0,0,0,0⟩
def hx4:Ev:=⟨6,0,0,0,0,0,0,0,0,0⟩
theorem turn1 {s:St} {e:Ev} (h:e.k=1):s.turn e=s.account e:=by unfold St.turn;rw [if_pos h]
theorem turn2 {s:St} {e:Ev} (h:e.k=2):s.turn e=s.func e:=by unfold St.turn;rw [if_neg (by omega),if_pos h]
theorem turn3 {s:St} {e:Ev} (h:e.k=3):s.turn e=s.addHost e.n e.s:=by unfold St.turn;rw [if_neg (by omega),if_neg (by omega),if_pos h]
theorem hr1:right hx1:=by unfold right hx1;simp [nums,mk,nth]
theorem hr2:right hx2:=by unfold right hx2;simp [nums,mk,nth]
theorem hr3:right hx3:=by unfold right hx3;simp [nums,mk,nth]
theorem hr4:right hx4:=by unfold right hx4;simp [nums,mk,nth]
def hs1:St:={ St.zero with A:=accA St.zero.A St.zero.F 0 1,tk:=St.zero.tk.set 0 (1,0,1) }
theorem ha1:St.zero.act hx1=(hs1,(0,0,0,0),[]):=by
 have h:St.zero.account hx1=(hs1,0):=by
  unfold St.account;rw [if_neg (by decide),if_neg (by decide)]
  rfl
 have h2:St.zero.answer hx1=(hs1,(0,0,0,0)):=by
  unfold St.answer;rw [if_neg (by decide),turn1 rfl,h]
  rfl
 unfold St.act;rw [h2];rfl
def hg2:Fu:={ Fu.new 0 2 with cost:=1,keep:=0 }
def hs2:St:={ hs1 with F:=funF hs1.A hs1.F 0 0 0,fu:=hs1.fu.set 0 hg2 }
theorem ha2:hs1.act hx2=(hs2,(0,0,0,0),[]):=by
 have h0:funE hs1 hx2=0:=by
  unfold funE;rw [if_neg (by decide)]
  rw [if_neg (by decide),if_neg (by decide),if_neg (by decide)]
  decide
 have h:hs1.func hx2=(hs2,0):=by
  unfold St.func;rw [if_pos h0,keep_as rfl];rfl
 have h2:hs1.answer hx2=(hs2,(0,0,0,0)):=by
  unfold St.answer;rw [if_neg (by decide),turn2 rfl,h]
  rfl
 unfold St.act;rw [h2];rfl
def hs3:St:=({ hs2 with H:=addH hs2.H 0 2 }:St).setP 0 Pl.new
theorem ha3:hs2.act hx3=(hs3,(0,0,0,0),[]):=by
 have h:hs2.addHost 0 2=(hs3,0):=by
  unfold St.addHost;have h0:addC hs2.H 0 2=0:=by decide
  rw [if_pos h0,keepAll_same (fun f q=>?_)]
  ·rfl
  ·have hf:f=0:=by
    by_cases e:f=0
    ·exact e
    ·exfalso
     have:hs3.fu.a f=none:=by show updZ _ _ _ f=none;unfold updZ;rw [if_neg e];rfl
     change (hs3.fu.a f).isSome=true at q;rw [this] at q
     cases q
   subst hf;rfl
 have h2:hs2.answer hx3=(hs3,(0,0,0,0)):=by
  unfold St.answer;rw [if_neg (by decide),turn3 rfl]
  show ((hs2.addHost 0 2).1,if (hs2.addHost 0 2).2=0 then (0,0,0,0) else refused (hs2.addHost 0 2).2)=_
  rw [h];rfl
 unfold St.act;rw [h2];rfl
theorem fresh_none {s:St} {f:Int} (h:∀ j,((s.G f).pi.a j)=none∧((s.G f).lo.a j)=none):s.fresh f=none:=by
 unfold St.fresh;rw [dif_neg];rintro ⟨i,hi,_⟩;have:=h i
 rw [this.1,this.2] at hi;simp at hi
def hs4:St:=(({ hs3 with tk:=hs3.tk.set 0 (1,0,0) }:St).boot 0 0).begin 0 1
theorem ha4:hs3.act hx4=({ hs4 with out:=[] },(3,1,0,0),[(true,1,0,0)]):=by
 have hr:hs3.room 2=(hs3,some 0):=by
  unfold St.room;rw [if_pos (by decide)]
  rfl
 have hc:hs3.cold 0=(hs4,(3,1,0,0)):=by
  unfold St.cold;dsimp only;rw [if_neg (by decide)]
  have hr':hs3.room (hs3.G 0).mem=(hs3,some 0):=hr;rw [hr'];rfl
 have h:hs3.call 0=(hs4,(3,1,0,0)):=by
  unfold St.call;rw [if_pos (by decide),if_neg (by decide),if_neg (by decide),fresh_none (fun j=>⟨rfl,rfl⟩),hc]
 have h2:hs3.answer hx4=(hs4,(3,1,0,0)):=by
  unfold St.answer;rw [if_pos (by decide)]
  exact h
 unfold St.act;rw [h2];rfl
theorem ha5:(({ hs4 with out:=[] }:St).act hx4).2.1=(4,0,2,0):=by
 have h:(({ hs4 with out:=[] }:St).call 0).2=(4,0,2,0):=by
  unfold St.call;rw [if_pos (by decide),if_neg (by decide),if_pos (by decide)]
  rfl
 have h2:(({ hs4 with out:=[] }:St).answer hx4)=({ hs4 with out:=[] }:St).call 0:=by unfold St.answer;rw [if_pos (by decide)];rfl
 unfold St.act;rw [h2];exact h
end Go.Proofs.YthdengocipfgiaaGreat.W.C
namespace Go.Proofs.YthdengocipfgiaaGreat.W.C
open Go.RowKit Go.Proofs.YthdengocipfgiaaGreat.W
attribute [local go_sem] Oper.semAt_some
def Far (w:World) (own:Nat→Option Tag) (w':World):Prop:=Below w.heap.size w w'∧∀ j,own j≠none→w.heap.size≤j
theorem Far.nx {w w1 w2:World} {o o':Nat→Option Tag} (h:Far w o w1) (k:Nx w1 o w2 o'):Far w o' w2 :=
 ⟨h.1.trans (k.only.below (fun j q=>h.2 j q) h.1.size),fun j q=>(k.new j q).elim (h.2 j) (fun q=>Nat.le_trans h.1.size q)⟩
theorem Far.side {w w1 w2:World} {o:Nat→Option Tag} {S:Nat→Prop} (h:Far w o w1) (k:Only w1 w2 S) (hS:∀ j,S j→w.heap.size≤j):Far w o w2 :=
 ⟨h.1.trans (k.below hS h.1.size),h.2⟩
def ansO:Obj:=(.cells #[.int .i64 0,.int .i64 0,.int .i64 0,.int .i64 0] 35)
theorem ans_only {w w':World} (hg:(w.alloc ansO).grownBy w' (some w.heap.size)):Only w w' (fun j=>j=w.heap.size) :=
 ((Only.refl w (fun j=>j=w.heap.size)).alloc ansO).tr (Only.grown hg (Or.inl rfl))
theorem new_ans (w:World):Hid ((w.alloc (.cells #[.int .i64 0,.int .i64 0,.int .i64 0,.int .i64 0] 35)).heap[w.heap.size]?=some (ano 0 0 0 0)):=Lib.hid (heap_alloc_new w _)
theorem hd1:St.zero.doE ⟨1,0,1,1,0,0,0,0,0,0⟩=(hs1,(0,0,0,0),[]):=(St.doE_right hr1).trans ha1
theorem hd2:hs1.doE ⟨2,0,0,0,0,0,2,1,0,0⟩=(hs2,(0,0,0,0),[]):=(St.doE_right hr2).trans ha2
theorem hd3:hs2.doE ⟨3,0,0,2,0,0,0,0,0,0⟩=(hs3,(0,0,0,0),[]):=(St.doE_right hr3).trans ha3
theorem hd4:hs3.doE ⟨6,0,0,0,0,0,0,0,0,0⟩=({ hs4 with out:=[] },(3,1,0,0),[(true,1,0,0)]):=(St.doE_right hr4).trans ha4
theorem hd5:(({ hs4 with out:=[] }:St).doE ⟨6,0,0,0,0,0,0,0,0,0⟩).2.1=(4,0,2,0):=(congrArg (fun r:St×Ans×List Cmd=>r.2.1) (St.doE_right (s:=({ hs4 with out:=[] }:St)) hr4)).trans ha5
theorem l_head (w:World):Calls Tryz.prog 5 #[] w fun e w'=>e=.returned (.bool true)∧Below w.heap.size w w':=by
 have I0:Inv (64064*4+64064) 0 St.zero:=Inv.zero (by decide)
 have I1:=Inv.doE (K:=64064*4) I0 ⟨1,0,1,1,0,0,0,0,0,0⟩;rw [hd1] at I1;have I2:=Inv.doE (K:=64064*3) I1 ⟨2,0,0,0,0,0,2,1,0,0⟩;rw [hd2] at I2;have I3:=Inv.doE (K:=64064*2) I2 ⟨3,0,0,2,0,0,0,0,0,0⟩;rw [hd3] at I3;have I4:=Inv.doE (K:=64064) I3 ⟨6,0,0,0,0,0,0,0,0,0⟩;rw [hd4] at I4;have HI:=Lib.hid (And.intro I0 (And.intro I1 (And.intro I2 (And.intro I3 I4))));clear I0 I1 I2 I3 I4
 go_enter Tryz.func5,Tryz.ntmps5
 go_wp2_with fail
 with_reducible refine (c_NewW w).mono ?_
 rintro e w1 ⟨cc,own1,rfl,k1,hge,hoge,b1⟩;have F1:Hid (Far w own1 w1):=Lib.hid ⟨b1,hoge⟩;clear hge hoge b1;have d1:=c_Do k1 (K:=64064*4) HI.out.1 1 0 1 1 0 0 0 0 0 0;rw [hd1] at d1;go_wp2_with fail
 with_reducible refine d1.mono ?_
 rintro e w2 ⟨sv1,rfl,own2,G1,k2,n2,_,_⟩;have F2:=Lib.hid (F1.out.nx n2);clear F1 n2 k1 d1;have d2:=c_Do k2 (K:=64064*3) HI.out.2.1 2 0 0 0 0 0 2 1 0 0;rw [hd2] at d2;go_wp2_with fail
 with_reducible refine d2.mono ?_
 rintro e w3 ⟨sv2,rfl,own3,G2,k3,n3,_,_⟩;have F3:=Lib.hid (F2.out.nx n3);clear F2 n3 k2 d2;have d3:=c_Do k3 (K:=64064*2) HI.out.2.2.1 3 0 0 2 0 0 0 0 0 0;rw [hd3] at d3;go_wp2_with fail
 with_reducible refine d3.mono ?_
 rintro e w4 ⟨sv3,rfl,own4,G3,k4,n4,_,_⟩;have F4:=Lib.hid (F3.out.nx n4);clear F3 n4 k3 d3;have d4:=c_Do k4 (K:=64064) HI.out.2.2.2.1 6 0 0 0 0 0 0 0 0 0;rw [hd4] at d4
 go_upto_region 8 with (first
  | (go_at_call 8;go_loud (with_reducible refine d4.mono ?_;rintro e w5 ⟨sv4,rfl,own5,G4,k5,n5,i5,g5⟩;have HX5:=new_ans w5))
  | (with_reducible refine wpList_store_ans rfl (.tmp 2) (.tmp 22) rfl w5.heap.size 3 1 0 0 rfl rfl 0 0 0 0 HX5 ?_;intro w6 HG6 hg6))
 have o6:=ans_only hg6;have F6:=Lib.hid ((F4.out.nx n5).side o6 (fun j q=>by have:=((F4.out.nx n5).1).size;omega))
 have k6:=k5.side o6 (fun j q=>k5.fresh (by omega))
 have i6:=i5.kept o6 (fun g e q=>by have:=i5.lt g e;omega)
 have hgn:∀ g,G4=some g→own5 g=none:=fun g e=>(g5 g e).1;have hxn:=k5.fresh (Nat.le_refl w5.heap.size);obtain ⟨X,hX⟩:∃ X,w5.heap.size=X:=⟨_,rfl⟩;rw [hX] at HG6 hxn
 try rw [hX]
 have HX6:=Lib.hid (And.intro hgn hxn);have HI6:=Lib.hid i6;clear o6 hg6 HX5 F4 n5 k5 i5 g5 d4 k4 i6 hgn hxn hX;have d5:=c_Do k6 (K:=0) HI.out.2.2.2.2 6 0 0 0 0 0 0 0 0 0;rw [hd5] at d5
 go_upto_region 9 with (first
  | (go_at_call 8;with_reducible refine d5.mono ?_;rintro e w7 ⟨sv5,rfl,own7,G5,k7,n7,_,_⟩;have HX7:=new_ans w7)
  | (with_reducible refine wpList_store_ans rfl (.tmp 4) (.tmp 28) rfl w7.heap.size 4 0 2 0 rfl rfl 0 0 0 0 HX7 ?_;intro w8 HG8 hg8))
 have o8:=ans_only hg8;have F8:=Lib.hid ((F6.out.nx n7).side o8 (fun j q=>by have:=((F6.out.nx n7).1).size;omega))
 have hx7:=n7.blk HX6.out.2 HG6.out;have HX8:=Lib.hid (o8.blk (fun q=>by have:=lt_of_row hx7;omega) hx7)
 have i7:=HI6.out.kept n7.only (fun g e q=>q (HX6.out.1 g e));have i8:=i7.kept o8 (fun g e q=>by have:=i7.lt g e;omega)
 obtain ⟨Y,hY⟩:∃ Y,w7.heap.size=Y:=⟨_,rfl⟩;rw [hY] at HG8
 try rw [hY]
 obtain ⟨g4,c4,_,rfl,r8⟩:=i8.some_ (by decide)
 obtain ⟨z0,z1,z2,z3⟩:=cmd_cells r8 (k:=0) (by decide)
 have x0:=(an_cells HX8.out).1;have x1:=(an_cells HX8.out).2.1;have x2:=(an_cells HX8.out).2.2.1;have x3:=(an_cells HX8.out).2.2.2;have y0:=(an_cells HG8.out).1;have y1:=(an_cells HG8.out).2.1;have y2:=(an_cells HG8.out).2.2.1;have y3:=(an_cells HG8.out).2.2.2;clear o8 hg8 HX7 F6 n7 k7 d5 k6 hx7 i7 i8 HI6 hY r8 HX8 HG6;go_wp2_with fail
 go_ret
 exact ⟨rfl,F8.out.1⟩
end Go.Proofs.YthdengocipfgiaaGreat.W.C
