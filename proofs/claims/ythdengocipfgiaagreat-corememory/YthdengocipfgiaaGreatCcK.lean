import Derived.Test.YthdengocipfgiaaGreatCcJ
/- A part of what core's laws stand on. -/
set_option linter.unusedVariables false
set_option linter.unusedSimpArgs false
set_option maxRecDepth 100000
set_option maxHeartbeats 3200000
namespace Go.Proofs.YthdengocipfgiaaGreat.W.C
open Go.RowKit Go.Proofs.YthdengocipfgiaaGreat.W
attribute [local go_sem] Oper.semAt_some
theorem ev_cells {w:World} {b:Nat} {k n l z r a m c v p:Int} (h:w.heap[b]?=some (.cells #[.int .i64 k,.int .i64 n,.int .i64 l,.int .i64 z,.int .i64 r,.int .i64 a,.int .i64 m,.int .i64 c,.int .i64 v,.int .i64 p] 29 (0,0))):w.cell? ⟨b,0,none⟩=some (.int .i64 k)∧w.cell? ⟨b,1,none⟩=some (.int .i64 n)∧w.cell? ⟨b,2,none⟩=some (.int .i64 l)∧w.cell? ⟨b,3,none⟩=some (.int .i64 z)∧w.cell? ⟨b,4,none⟩=some (.int .i64 r)∧w.cell? ⟨b,5,none⟩=some (.int .i64 a)∧w.cell? ⟨b,6,none⟩=some (.int .i64 m)∧w.cell? ⟨b,7,none⟩=some (.int .i64 c)∧w.cell? ⟨b,8,none⟩=some (.int .i64 v)∧w.cell? ⟨b,9,none⟩=some (.int .i64 p) :=
 ⟨cell_of_row _ _ 0 _ _ _ h,cell_of_row _ _ 1 _ _ _ h,cell_of_row _ _ 2 _ _ _ h,cell_of_row _ _ 3 _ _ _ h,cell_of_row _ _ 4 _ _ _ h,cell_of_row _ _ 5 _ _ _ h,cell_of_row _ _ 6 _ _ _ h,cell_of_row _ _ 7 _ _ _ h,cell_of_row _ _ 8 _ _ _ h,cell_of_row _ _ 9 _ _ _ h⟩
theorem an_cells {w:World} {b:Nat} {b0 b1 b2 b3:Int} (h:w.heap[b]?=some (ano b0 b1 b2 b3)):w.cell? ⟨b,0,none⟩=some (.int .i64 b0)∧w.cell? ⟨b,1,none⟩=some (.int .i64 b1)∧w.cell? ⟨b,2,none⟩=some (.int .i64 b2)∧w.cell? ⟨b,3,none⟩=some (.int .i64 b3) :=
 ⟨cell_of_row _ _ 0 _ _ _ h,cell_of_row _ _ 1 _ _ _ h,cell_of_row _ _ 2 _ _ _ h,cell_of_row _ _ 3 _ _ _ h⟩
theorem c_DoC {w:World} {own:Nat→Option Tag} {cb:Nat} {an:Int→Int} {s:St} (h:Cr w own cb an s) {K:Nat} (hI:Inv (K+64064) 0 s) (han:∀ j,I64 (an j)) (k n l z r a m c v p:Int) (hr:right ⟨k,n,l,z,r,a,m,c,v,p⟩) :
  Calls Tryz.prog 8 #[ptr cb,.agg #[.int .i64 k,.int .i64 n,.int .i64 l,.int .i64 z,.int .i64 r,.int .i64 a,.int .i64 m,.int .i64 c,.int .i64 v,.int .i64 p]] w fun e w'=>∃ sv,e=.returned (.tuple #[avl (s.act ⟨k,n,l,z,r,a,m,c,v,p⟩).2.1,sv])∧DoP w own cb an s ⟨k,n,l,z,r,a,m,c,v,p⟩ sv w':=by
 obtain ⟨hk9,hS⟩:=right_sm hr;have hb0:Below w.heap.size w ((w.alloc (.cells #[.int .i64 k,.int .i64 n,.int .i64 l,.int .i64 z,.int .i64 r,.int .i64 a,.int .i64 m,.int .i64 c,.int .i64 v,.int .i64 p] 29)).alloc (.cells #[.int .i64 0,.int .i64 0,.int .i64 0,.int .i64 0] 35)):=((Below.refl _ _).alloc (Nat.le_refl _) _).alloc (by rw [World.size_alloc];omega) _
 have hrow0:((w.alloc (.cells #[.int .i64 k,.int .i64 n,.int .i64 l,.int .i64 z,.int .i64 r,.int .i64 a,.int .i64 m,.int .i64 c,.int .i64 v,.int .i64 p] 29)).alloc (.cells #[.int .i64 0,.int .i64 0,.int .i64 0,.int .i64 0] 35)).heap[w.heap.size]?=some (.cells #[.int .i64 k,.int .i64 n,.int .i64 l,.int .i64 z,.int .i64 r,.int .i64 a,.int .i64 m,.int .i64 c,.int .i64 v,.int .i64 p] 29 (0,0)):=(two_new w (.cells #[.int .i64 k,.int .i64 n,.int .i64 l,.int .i64 z,.int .i64 r,.int .i64 a,.int .i64 m,.int .i64 c,.int .i64 v,.int .i64 p] 29) (.cells #[.int .i64 0,.int .i64 0,.int .i64 0,.int .i64 0] 35)).1;have hrow1:((w.alloc (.cells #[.int .i64 k,.int .i64 n,.int .i64 l,.int .i64 z,.int .i64 r,.int .i64 a,.int .i64 m,.int .i64 c,.int .i64 v,.int .i64 p] 29)).alloc (.cells #[.int .i64 0,.int .i64 0,.int .i64 0,.int .i64 0] 35)).heap[w.heap.size+1]?=some (ano 0 0 0 0):=(two_new w (.cells #[.int .i64 k,.int .i64 n,.int .i64 l,.int .i64 z,.int .i64 r,.int .i64 a,.int .i64 m,.int .i64 c,.int .i64 v,.int .i64 p] 29) (.cells #[.int .i64 0,.int .i64 0,.int .i64 0,.int .i64 0] 35)).2;have hf0:=h.fresh (Nat.le_refl w.heap.size);have hf1:=h.fresh (j:=w.heap.size+1) (by omega)
 have KR:=Lib.hid (fun W=>right_any k n l z r a m c v p W true ⟨fun _=>hr,fun _=>rfl⟩);have HI:=Lib.hid hI;have HAN:=Lib.hid han;have HSM:=Lib.hid (And.intro hk9 hS);clear hr hI han hk9 hS
 go_enter Tryz.func8,Tryz.ntmps8
 go_upto_region 1 with (fail)
 obtain ⟨Hb,hHb⟩:∃ Hb,w.heap.size=Hb:=⟨_,rfl⟩;have HHB:=Lib.hid hHb;have HWA:=Lib.hid (show w.heap.size≤Hb+1 by omega)
 rw [hHb] at hrow0 hrow1;rw [hHb];have HR1:=Lib.hid hrow0;have HA1:=Lib.hid hrow1;clear hrow0 hrow1;have h1:=h.below hb0;have HN1:=Lib.hid (Nx.below own hb0);rw [hHb] at hf0 hf1;have HF1:=Lib.hid (And.intro hf0 hf1);clear hHb hb0 h hf0 hf1;generalize (w.alloc (.cells #[.int .i64 k,.int .i64 n,.int .i64 l,.int .i64 z,.int .i64 r,.int .i64 a,.int .i64 m,.int .i64 c,.int .i64 v,.int .i64 p] 29)).alloc (.cells #[.int .i64 0,.int .i64 0,.int .i64 0,.int .i64 0] 35)=w1 at h1 HN1 HR1 HA1 ⊢;obtain ⟨Ha,hHa⟩:∃ Ha,Hb+1=Ha:=⟨_,rfl⟩;rw [hHa] at HA1 HWA HF1;rw [hHa];clear hHa;have y0:w1.cell? ⟨Hb,0,none⟩=some (.int .i64 k):=cell_of_row _ _ 0 _ _ _ HR1.out;have y1:w1.cell? ⟨Hb,1,none⟩=some (.int .i64 n):=cell_of_row _ _ 1 _ _ _ HR1.out;have y2:w1.cell? ⟨Hb,2,none⟩=some (.int .i64 l):=cell_of_row _ _ 2 _ _ _ HR1.out;have y3:w1.cell? ⟨Hb,3,none⟩=some (.int .i64 z):=cell_of_row _ _ 3 _ _ _ HR1.out;have y4:w1.cell? ⟨Hb,4,none⟩=some (.int .i64 r):=cell_of_row _ _ 4 _ _ _ HR1.out;have y5:w1.cell? ⟨Hb,5,none⟩=some (.int .i64 a):=cell_of_row _ _ 5 _ _ _ HR1.out;have y6:w1.cell? ⟨Hb,6,none⟩=some (.int .i64 m):=cell_of_row _ _ 6 _ _ _ HR1.out;have y7:w1.cell? ⟨Hb,7,none⟩=some (.int .i64 c):=cell_of_row _ _ 7 _ _ _ HR1.out;have y8:w1.cell? ⟨Hb,8,none⟩=some (.int .i64 v):=cell_of_row _ _ 8 _ _ _ HR1.out;have y9:w1.cell? ⟨Hb,9,none⟩=some (.int .i64 p):=cell_of_row _ _ 9 _ _ _ HR1.out;have H1:=Lib.hid h1;clear h1;go_upto_region 3 with (go_at_call 14;with_reducible refine (KR.out _).mono ?_;rintro e2 w2 ⟨rfl,hb2⟩;have HB2:=Lib.hid hb2;clear hb2)
 have h2:=H1.out.below HB2.out;have HR2:=Lib.hid ((Only.of_below (S:=fun _=>False) HB2.out).blk (fun q=>q) HR1.out);have HA2:=Lib.hid ((Only.of_below (S:=fun _=>False) HB2.out).blk (fun q=>q) HA1.out);have HN2:=Lib.hid (HN1.out.trans (Nx.below own HB2.out));have KY:=Lib.hid (c_readyR h2);clear y0 y1 y2 y3 y4 y5 y6 y7 y8 y9 H1 HR1 HA1 HN1 HB2;obtain ⟨an0,hanE⟩:∃ an0,(s.answer ⟨k,n,l,z,r,a,m,c,v,p⟩).2=an0:=⟨_,rfl⟩;obtain ⟨sa,hsaE⟩:∃ sa,(s.answer ⟨k,n,l,z,r,a,m,c,v,p⟩).1=sa:=⟨_,rfl⟩;have hkd:=answer_kind s ⟨k,n,l,z,r,a,m,c,v,p⟩;rw [hanE] at hkd;have HAC:Hid (s.act ⟨k,n,l,z,r,a,m,c,v,p⟩=({ sa with out:=[] },an0,sa.out)):=Lib.hid (by unfold St.act;rw [hanE,hsaE])
 obtain ⟨k1,b1,b2,b3⟩:=an0;have hk5:k1=0∨k1=1∨k1=2∨k1=3∨k1=4:=by have h1:0≤k1:=hkd.1;have h2:k1≤4:=hkd.2;omega
 have HE:=Lib.hid (And.intro hsaE hanE);clear hanE hsaE hkd h2
 go_upto_region 5 with (first
  | (go_at_call 16;go_loud (with_reducible refine KY.out.mono ?_;rintro e3 w3 ⟨rfl,yr,o3,hy3,ha3,h3,n3⟩;have HR3:=Lib.hid (n3.blk HF1.out.1 HR2.out);have HA3:=Lib.hid (n3.blk HF1.out.2 HA2.out);have HF3:=Lib.hid (n3.none HF1.out.2 (lt_of_row HA2.out));have HN3:=Lib.hid (HN2.out.trans n3);have ka:=c_answer h3 HI.out k n l z r a m c v p HSM.out.1 HSM.out.2;rw [HE.out.1,HE.out.2,hy3] at ka;have KA:=Lib.hid ka;have HY3:=Lib.hid (And.intro hy3 ha3);obtain ⟨y0,y1,y2,y3,y4,y5,y6,y7,y8,y9⟩:=ev_cells HR3.out;clear ka h3 n3 hy3 ha3))
  | (go_at_call 17;with_reducible refine KA.out.mono ?_;rintro e4 w4 ⟨rfl,yy,hy4,ha4,o4,h4,n4⟩))
 have hb5:Below w4.heap.size w4 (w4.alloc (.cells #[.int .i64 k1,.int .i64 b1,.int .i64 b2,.int .i64 b3] 35)):=(Below.refl _ _).alloc (Nat.le_refl _) _;have hx5:=heap_alloc_new w4 (.cells #[.int .i64 k1,.int .i64 b1,.int .i64 b2,.int .i64 b3] 35);have h5:=h4.below hb5;have HFX:=Lib.hid (h4.fresh (Nat.le_refl w4.heap.size));have HFA:=Lib.hid (n4.none HF3.out (lt_of_row HA3.out));have HA5:=Lib.hid ((Only.of_below (S:=fun _=>False) hb5).blk (fun q=>q) (n4.blk HF3.out HA3.out));have HN5:=Lib.hid ((HN3.out.trans n4).trans (Nx.below o4 hb5));have HXA:=Lib.hid (show w4.heap.size≠Ha from fun q=>by have:=lt_of_row (n4.blk HF3.out HA3.out);omega)
 obtain ⟨Hx,hHx⟩:∃ Hx,w4.heap.size=Hx:=⟨_,rfl⟩;rw [hHx] at hx5 HFX HXA;rw [hHx];have HX5:Hid (_=some (ano k1 b1 b2 b3)):=Lib.hid hx5;have HY4:=Lib.hid (And.intro (hy4.trans HY3.out.1) (ha4.trans HY3.out.2));clear y0 y1 y2 y3 y4 y5 y6 y7 y8 y9 hb5 hx5 hHx n4 h4 hy4 ha4 KA KY KR HR2 HA2 HN2 HF1 HY3 HE HR3 HA3 HF3 HN3;generalize w4.alloc (.cells #[.int .i64 k1,.int .i64 b1,.int .i64 b2,.int .i64 b3] 35)=w5 at h5 HX5 HA5 HN5 ⊢;obtain ⟨vv,G,hcr,hits,hG⟩:=h5.coreAll;have HCR:=Lib.hid hcr;have HITS:=Lib.hid hits;have HGG:=Lib.hid hG;have H5:=Lib.hid h5;clear hcr hits hG h5;have sz30:(Tryz.prog.info? 36).map (·.size)=some 1:=by kernel_rfl
 have SZ:=Lib.hid sz30;clear sz30;have HOG:=Lib.hid (fun g (e:G=some g)=>HN5.out.new g (by rw [(HGG.out g e).1];simp))
 have HCX:=Lib.hid (show Hx≠cb from fun q=>by have:=(H5.out.ob .core).1;rw [HY4.out.1,←q,HFX.out] at this;cases this)
 have HCA:=Lib.hid (show Ha≠cb from fun q=>by have:=(H5.out.ob .core).1;rw [HY4.out.1,←q,HFA.out] at this;cases this)
 rcases hk5 with rfl | rfl | rfl | rfl | rfl
 ·have x0:w5.cell? ⟨Hx,0,none⟩=some (.int .i64 0):=cell_of_row _ _ 0 _ _ _ HX5.out
  have kad:=addAt yy.c 10 (yy.an 0) 1 (C.crow yy sa.now sa.last vv) 69 w5.drew HCR.out rfl (by rw [HY4.out.2];exact HAN.out 0) (by unfold I64;omega)
  rw [HY4.out.1] at kad;have KAD:=Lib.hid kad;clear kad;go_wp2_with fail
  go_still_tail 6,(by kernel_rfl)
  change wpList _ _ _ _ _ w5.drew;clear x0;go_upto_region 6 with (go_at_call 18;with_reducible refine KAD.out.mono ?_;rintro e6 w6 ⟨rfl,hr6,g6⟩)
  obtain ⟨h6,n6⟩:=Cor.count H5.out.drew (w':=w6) (HITS.out.kept ((Only.refl w5 (fun _=>False)).drewN 1) (fun _ _ q=>q)) HGG.out 0 (by decide) (by rw [HY4.out.1];exact hr6) (by rw [HY4.out.1];exact g6)
  have hr6':w6.heap[cb]?=some (.cells (crow { yy with an:=anF yy.an ((0:Nat):Int) } sa.now sa.last vv).toArray 69 (0,0)):=by
   rw [←crow_an yy sa.now sa.last vv 0 (by decide)];exact hr6
  have HR6:=Lib.hid hr6';have HX6:=Lib.hid (n6.blk HFX.out HX5.out);have HA6:=Lib.hid (n6.blk HFA.out HA5.out);have HFA6:=Lib.hid (n6.none HFA.out (lt_of_row HA5.out));have I6:=Lib.hid ((HITS.out.kept ((Only.refl w5 (fun _=>False)).drewN 1) (fun _ _ q=>q)).kept (Only.grown (S:=fun j=>j=cb) g6 (Or.inl rfl)) (fun g e=>by have:=(HGG.out g e).2;rw [HY4.out.1] at this;exact this))
  have HG6:=Lib.hid (fun g (e:G=some g)=>And.intro (own_old (u:=.core) (w':=w6) H5.out.drew (HGG.out g e).1) (show g≠yy.c from (HGG.out g e).2))
  have HN6:=Lib.hid (HN5.out.drew.trans n6);have H6:=Lib.hid h6;have x15:w6.cell? ⟨cb,15,none⟩=some vv:=cellL HR6.out 15 _ rfl;have x0:w6.cell? ⟨Hx,0,none⟩=some (.int .i64 0):=cell_of_row _ _ 0 _ _ _ HX6.out;have x1:w6.cell? ⟨Hx,1,none⟩=some (.int .i64 b1):=cell_of_row _ _ 1 _ _ _ HX6.out;have x2:w6.cell? ⟨Hx,2,none⟩=some (.int .i64 b2):=cell_of_row _ _ 2 _ _ _ HX6.out;have x3:w6.cell? ⟨Hx,3,none⟩=some (.int .i64 b3):=cell_of_row _ _ 3 _ _ _ HX6.out;clear hr6 hr6' g6 h6 n6 KAD HX5 HA5 HITS HGG HN5 H5 HCR HFX HFA
  go_wp2_with (first
   | (with_reducible refine wpList_store_one rfl 36 (.tmp 30) (.const (.slice none 0 0)) rfl SZ.out cb 15 rfl (.slice none 0 0) rfl rfl rfl _ _ HR6.out (by simp [crow]) ?_;intro w7 HR7 g7;have HX7:=Lib.hid ((Only.grown (S:=fun j=>j=cb) g7 (Or.inl rfl)).blk HCX.out HX6.out);have HA7:=Lib.hid ((Only.grown (S:=fun j=>j=cb) g7 (Or.inl rfl)).blk HCA.out HA6.out);clear x0 x1 x2 x3 x15;obtain ⟨x0,x1,x2,x3⟩:=an_cells HX7.out)
   | (with_reducible refine wpList_store_ans rfl (.tmp 4) (.tmp 31) rfl Ha 0 b1 b2 b3 rfl rfl 0 0 0 0 HA7 ?_;intro w8 HG8 g8))
  obtain ⟨o7,h7,n7,ng7,i7⟩:=Cor.taken H6.out (by rw [show ({ yy with an:=anF yy.an ((0:Nat):Int) }:Lay).c=cb from HY4.out.1];exact HR6.out) I6.out HG6.out (w':=w7) (by rw [show ({ yy with an:=anF yy.an ((0:Nat):Int) }:Lay).c=cb from HY4.out.1];exact HR7.out) (by rw [show ({ yy with an:=anF yy.an ((0:Nat):Int) }:Lay).c=cb from HY4.out.1];exact g7)
  have hfa7:=n7.none HFA6.out (lt_of_row HA6.out);have o8:Only w7 w8 (fun j=>j=Ha):=Only.grown g8 (Or.inl rfl);refine bodyPost_ret (ret_ans2 (fn:=Tryz.f8) rfl rfl rfl HG8) rfl ⟨vv,by rw [HAC.out];rfl,?_⟩
  unfold DoP;rw [HAC.out];refine ⟨{ yy with an:=anF yy.an ((0:Nat):Int) },o7,G,HY4.out.1,by rw [←HY4.out.2];rfl,h7.side o8 (fun j q=>by rw [q];exact hfa7),(HN6.out.trans n7).side o8 (fun j q=>by rw [q];exact HWA.out),i7.kept o8 (fun g e q=>?_),fun g e=>⟨ng7 g e,HOG.out g e⟩⟩
  have:=(HG6.out g e).1
  rw [q,HFA6.out] at this
  cases this
 ·have x0:w5.cell? ⟨Hx,0,none⟩=some (.int .i64 1):=cell_of_row _ _ 0 _ _ _ HX5.out
  have kad:=addAt yy.c 11 (yy.an 1) 1 (C.crow yy sa.now sa.last vv) 69 w5.drew HCR.out rfl (by rw [HY4.out.2];exact HAN.out 1) (by unfold I64;omega)
  rw [HY4.out.1] at kad;have KAD:=Lib.hid kad;clear kad;go_wp2_with fail
  go_still_tail 6,(by kernel_rfl)
  change wpList _ _ _ _ _ w5.drew;clear x0;go_upto_region 6 with (go_at_call 18;with_reducible refine KAD.out.mono ?_;rintro e6 w6 ⟨rfl,hr6,g6⟩)
  obtain ⟨h6,n6⟩:=Cor.count H5.out.drew (w':=w6) (HITS.out.kept ((Only.refl w5 (fun _=>False)).drewN 1) (fun _ _ q=>q)) HGG.out 1 (by decide) (by rw [HY4.out.1];exact hr6) (by rw [HY4.out.1];exact g6)
  have hr6':w6.heap[cb]?=some (.cells (crow { yy with an:=anF yy.an ((1:Nat):Int) } sa.now sa.last vv).toArray 69 (0,0)):=by
   rw [←crow_an yy sa.now sa.last vv 1 (by decide)];exact hr6
  have HR6:=Lib.hid hr6';have HX6:=Lib.hid (n6.blk HFX.out HX5.out);have HA6:=Lib.hid (n6.blk HFA.out HA5.out);have HFA6:=Lib.hid (n6.none HFA.out (lt_of_row HA5.out));have I6:=Lib.hid ((HITS.out.kept ((Only.refl w5 (fun _=>False)).drewN 1) (fun _ _ q=>q)).kept (Only.grown (S:=fun j=>j=cb) g6 (Or.inl rfl)) (fun g e=>by have:=(HGG.out g e).2;rw [HY4.out.1] at this;exact this))
  have HG6:=Lib.hid (fun g (e:G=some g)=>And.intro (own_old (u:=.core) (w':=w6) H5.out.drew (HGG.out g e).1) (show g≠yy.c from (HGG.out g e).2))
  have HN6:=Lib.hid (HN5.out.drew.trans n6);have H6:=Lib.hid h6;have x15:w6.cell? ⟨cb,15,none⟩=some vv:=cellL HR6.out 15 _ rfl;have x0:w6.cell? ⟨Hx,0,none⟩=some (.int .i64 1):=cell_of_row _ _ 0 _ _ _ HX6.out;have x1:w6.cell? ⟨Hx,1,none⟩=some (.int .i64 b1):=cell_of_row _ _ 1 _ _ _ HX6.out;have x2:w6.cell? ⟨Hx,2,none⟩=some (.int .i64 b2):=cell_of_row _ _ 2 _ _ _ HX6.out;have x3:w6.cell? ⟨Hx,3,none⟩=some (.int .i64 b3):=cell_of_row _ _ 3 _ _ _ HX6.out;clear hr6 hr6' g6 h6 n6 KAD HX5 HA5 HITS HGG HN5 H5 HCR HFX HFA
  go_wp2_with (first
   | (with_reducible refine wpList_store_one rfl 36 (.tmp 30) (.const (.slice none 0 0)) rfl SZ.out cb 15 rfl (.slice none 0 0) rfl rfl rfl _ _ HR6.out (by simp [crow]) ?_;intro w7 HR7 g7;have HX7:=Lib.hid ((Only.grown (S:=fun j=>j=cb) g7 (Or.inl rfl)).blk HCX.out HX6.out);have HA7:=Lib.hid ((Only.grown (S:=fun j=>j=cb) g7 (Or.inl rfl)).blk HCA.out HA6.out);clear x0 x1 x2 x3 x15;obtain ⟨x0,x1,x2,x3⟩:=an_cells HX7.out)
   | (with_reducible refine wpList_store_ans rfl (.tmp 4) (.tmp 31) rfl Ha 1 b1 b2 b3 rfl rfl 0 0 0 0 HA7 ?_;intro w8 HG8 g8))
  obtain ⟨o7,h7,n7,ng7,i7⟩:=Cor.taken H6.out (by rw [show ({ yy with an:=anF yy.an ((1:Nat):Int) }:Lay).c=cb from HY4.out.1];exact HR6.out) I6.out HG6.out (w':=w7) (by rw [show ({ yy with an:=anF yy.an ((1:Nat):Int) }:Lay).c=cb from HY4.out.1];exact HR7.out) (by rw [show ({ yy with an:=anF yy.an ((1:Nat):Int) }:Lay).c=cb from HY4.out.1];exact g7)
  have hfa7:=n7.none HFA6.out (lt_of_row HA6.out);have o8:Only w7 w8 (fun j=>j=Ha):=Only.grown g8 (Or.inl rfl);refine bodyPost_ret (ret_ans2 (fn:=Tryz.f8) rfl rfl rfl HG8) rfl ⟨vv,by rw [HAC.out];rfl,?_⟩
  unfold DoP;rw [HAC.out];refine ⟨{ yy with an:=anF yy.an ((1:Nat):Int) },o7,G,HY4.out.1,by rw [←HY4.out.2];rfl,h7.side o8 (fun j q=>by rw [q];exact hfa7),(HN6.out.trans n7).side o8 (fun j q=>by rw [q];exact HWA.out),i7.kept o8 (fun g e q=>?_),fun g e=>⟨ng7 g e,HOG.out g e⟩⟩
  have:=(HG6.out g e).1
  rw [q,HFA6.out] at this
  cases this
 ·have x0:w5.cell? ⟨Hx,0,none⟩=some (.int .i64 2):=cell_of_row _ _ 0 _ _ _ HX5.out
  have kad:=addAt yy.c 12 (yy.an 2) 1 (C.crow yy sa.now sa.last vv) 69 w5.drew HCR.out rfl (by rw [HY4.out.2];exact HAN.out 2) (by unfold I64;omega)
  rw [HY4.out.1] at kad;have KAD:=Lib.hid kad;clear kad;go_wp2_with fail
  go_still_tail 6,(by kernel_rfl)
  change wpList _ _ _ _ _ w5.drew;clear x0;go_upto_region 6 with (go_at_call 18;with_reducible refine KAD.out.mono ?_;rintro e6 w6 ⟨rfl,hr6,g6⟩)
  obtain ⟨h6,n6⟩:=Cor.count H5.out.drew (w':=w6) (HITS.out.kept ((Only.refl w5 (fun _=>False)).drewN 1) (fun _ _ q=>q)) HGG.out 2 (by decide) (by rw [HY4.out.1];exact hr6) (by rw [HY4.out.1];exact g6)
  have hr6':w6.heap[cb]?=some (.cells (crow { yy with an:=anF yy.an ((2:Nat):Int) } sa.now sa.last vv).toArray 69 (0,0)):=by
   rw [←crow_an yy sa.now sa.last vv 2 (by decide)];exact hr6
  have HR6:=Lib.hid hr6';have HX6:=Lib.hid (n6.blk HFX.out HX5.out);have HA6:=Lib.hid (n6.blk HFA.out HA5.out);have HFA6:=Lib.hid (n6.none HFA.out (lt_of_row HA5.out));have I6:=Lib.hid ((HITS.out.kept ((Only.refl w5 (fun _=>False)).drewN 1) (fun _ _ q=>q)).kept (Only.grown (S:=fun j=>j=cb) g6 (Or.inl rfl)) (fun g e=>by have:=(HGG.out g e).2;rw [HY4.out.1] at this;exact this))
  have HG6:=Lib.hid (fun g (e:G=some g)=>And.intro (own_old (u:=.core) (w':=w6) H5.out.drew (HGG.out g e).1) (show g≠yy.c from (HGG.out g e).2))
  have HN6:=Lib.hid (HN5.out.drew.trans n6);have H6:=Lib.hid h6;have x15:w6.cell? ⟨cb,15,none⟩=some vv:=cellL HR6.out 15 _ rfl;have x0:w6.cell? ⟨Hx,0,none⟩=some (.int .i64 2):=cell_of_row _ _ 0 _ _ _ HX6.out;have x1:w6.cell? ⟨Hx,1,none⟩=some (.int .i64 b1):=cell_of_row _ _ 1 _ _ _ HX6.out;have x2:w6.cell? ⟨Hx,2,none⟩=some (.int .i64 b2):=cell_of_row _ _ 2 _ _ _ HX6.out;have x3:w6.cell? ⟨Hx,3,none⟩=some (.int .i64 b3):=cell_of_row _ _ 3 _ _ _ HX6.out;clear hr6 hr6' g6 h6 n6 KAD HX5 HA5 HITS HGG HN5 H5 HCR HFX HFA
  go_wp2_with (first
   | (with_reducible refine wpList_store_one rfl 36 (.tmp 30) (.const (.slice none 0 0)) rfl SZ.out cb 15 rfl (.slice none 0 0) rfl rfl rfl _ _ HR6.out (by simp [crow]) ?_;intro w7 HR7 g7;have HX7:=Lib.hid ((Only.grown (S:=fun j=>j=cb) g7 (Or.inl rfl)).blk HCX.out HX6.out);have HA7:=Lib.hid ((Only.grown (S:=fun j=>j=cb) g7 (Or.inl rfl)).blk HCA.out HA6.out);clear x0 x1 x2 x3 x15;obtain ⟨x0,x1,x2,x3⟩:=an_cells HX7.out)
   | (with_reducible refine wpList_store_ans rfl (.tmp 4) (.tmp 31) rfl Ha 2 b1 b2 b3 rfl rfl 0 0 0 0 HA7 ?_;intro w8 HG8 g8))
  obtain ⟨o7,h7,n7,ng7,i7⟩:=Cor.taken H6.out (by rw [show ({ yy with an:=anF yy.an ((2:Nat):Int) }:Lay).c=cb from HY4.out.1];exact HR6.out) I6.out HG6.out (w':=w7) (by rw [show ({ yy with an:=anF yy.an ((2:Nat):Int) }:Lay).c=cb from HY4.out.1];exact HR7.out) (by rw [show ({ yy with an:=anF yy.an ((2:Nat):Int) }:Lay).c=cb from HY4.out.1];exact g7)
  have hfa7:=n7.none HFA6.out (lt_of_row HA6.out);have o8:Only w7 w8 (fun j=>j=Ha):=Only.grown g8 (Or.inl rfl);refine bodyPost_ret (ret_ans2 (fn:=Tryz.f8) rfl rfl rfl HG8) rfl ⟨vv,by rw [HAC.out];rfl,?_⟩
  unfold DoP;rw [HAC.out];refine ⟨{ yy with an:=anF yy.an ((2:Nat):Int) },o7,G,HY4.out.1,by rw [←HY4.out.2];rfl,h7.side o8 (fun j q=>by rw [q];exact hfa7),(HN6.out.trans n7).side o8 (fun j q=>by rw [q];exact HWA.out),i7.kept o8 (fun g e q=>?_),fun g e=>⟨ng7 g e,HOG.out g e⟩⟩
  have:=(HG6.out g e).1
  rw [q,HFA6.out] at this
  cases this
 ·have x0:w5.cell? ⟨Hx,0,none⟩=some (.int .i64 3):=cell_of_row _ _ 0 _ _ _ HX5.out
  have kad:=addAt yy.c 13 (yy.an 3) 1 (C.crow yy sa.now sa.last vv) 69 w5.drew HCR.out rfl (by rw [HY4.out.2];exact HAN.out 3) (by unfold I64;omega)
  rw [HY4.out.1] at kad;have KAD:=Lib.hid kad;clear kad;go_wp2_with fail
  go_still_tail 6,(by kernel_rfl)
  change wpList _ _ _ _ _ w5.drew;clear x0;go_upto_region 6 with (go_at_call 18;with_reducible refine KAD.out.mono ?_;rintro e6 w6 ⟨rfl,hr6,g6⟩)
  obtain ⟨h6,n6⟩:=Cor.count H5.out.drew (w':=w6) (HITS.out.kept ((Only.refl w5 (fun _=>False)).drewN 1) (fun _ _ q=>q)) HGG.out 3 (by decide) (by rw [HY4.out.1];exact hr6) (by rw [HY4.out.1];exact g6)
  have hr6':w6.heap[cb]?=some (.cells (crow { yy with an:=anF yy.an ((3:Nat):Int) } sa.now sa.last vv).toArray 69 (0,0)):=by
   rw [←crow_an yy sa.now sa.last vv 3 (by decide)];exact hr6
  have HR6:=Lib.hid hr6';have HX6:=Lib.hid (n6.blk HFX.out HX5.out);have HA6:=Lib.hid (n6.blk HFA.out HA5.out);have HFA6:=Lib.hid (n6.none HFA.out (lt_of_row HA5.out));have I6:=Lib.hid ((HITS.out.kept ((Only.refl w5 (fun _=>False)).drewN 1) (fun _ _ q=>q)).kept (Only.grown (S:=fun j=>j=cb) g6 (Or.inl rfl)) (fun g e=>by have:=(HGG.out g e).2;rw [HY4.out.1] at this;exact this))
  have HG6:=Lib.hid (fun g (e:G=some g)=>And.intro (own_old (u:=.core) (w':=w6) H5.out.drew (HGG.out g e).1) (show g≠yy.c from (HGG.out g e).2))
  have HN6:=Lib.hid (HN5.out.drew.trans n6);have H6:=Lib.hid h6;have x15:w6.cell? ⟨cb,15,none⟩=some vv:=cellL HR6.out 15 _ rfl;have x0:w6.cell? ⟨Hx,0,none⟩=some (.int .i64 3):=cell_of_row _ _ 0 _ _ _ HX6.out;have x1:w6.cell? ⟨Hx,1,none⟩=some (.int .i64 b1):=cell_of_row _ _ 1 _ _ _ HX6.out;have x2:w6.cell? ⟨Hx,2,none⟩=some (.int .i64 b2):=cell_of_row _ _ 2 _ _ _ HX6.out;have x3:w6.cell? ⟨Hx,3,none⟩=some (.int .i64 b3):=cell_of_row _ _ 3 _ _ _ HX6.out;clear hr6 hr6' g6 h6 n6 KAD HX5 HA5 HITS HGG HN5 H5 HCR HFX HFA
  go_wp2_with (first
   | (with_reducible refine wpList_store_one rfl 36 (.tmp 30) (.const (.slice none 0 0)) rfl SZ.out cb 15 rfl (.slice none 0 0) rfl rfl rfl _ _ HR6.out (by simp [crow]) ?_;intro w7 HR7 g7;have HX7:=Lib.hid ((Only.grown (S:=fun j=>j=cb) g7 (Or.inl rfl)).blk HCX.out HX6.out);have HA7:=Lib.hid ((Only.grown (S:=fun j=>j=cb) g7 (Or.inl rfl)).blk HCA.out HA6.out);clear x0 x1 x2 x3 x15;obtain ⟨x0,x1,x2,x3⟩:=an_cells HX7.out)
   | (with_reducible refine wpList_store_ans rfl (.tmp 4) (.tmp 31) rfl Ha 3 b1 b2 b3 rfl rfl 0 0 0 0 HA7 ?_;intro w8 HG8 g8))
  obtain ⟨o7,h7,n7,ng7,i7⟩:=Cor.taken H6.out (by rw [show ({ yy with an:=anF yy.an ((3:Nat):Int) }:Lay).c=cb from HY4.out.1];exact HR6.out) I6.out HG6.out (w':=w7) (by rw [show ({ yy with an:=anF yy.an ((3:Nat):Int) }:Lay).c=cb from HY4.out.1];exact HR7.out) (by rw [show ({ yy with an:=anF yy.an ((3:Nat):Int) }:Lay).c=cb from HY4.out.1];exact g7)
  have hfa7:=n7.none HFA6.out (lt_of_row HA6.out);have o8:Only w7 w8 (fun j=>j=Ha):=Only.grown g8 (Or.inl rfl);refine bodyPost_ret (ret_ans2 (fn:=Tryz.f8) rfl rfl rfl HG8) rfl ⟨vv,by rw [HAC.out];rfl,?_⟩
  unfold DoP;rw [HAC.out];refine ⟨{ yy with an:=anF yy.an ((3:Nat):Int) },o7,G,HY4.out.1,by rw [←HY4.out.2];rfl,h7.side o8 (fun j q=>by rw [q];exact hfa7),(HN6.out.trans n7).side o8 (fun j q=>by rw [q];exact HWA.out),i7.kept o8 (fun g e q=>?_),fun g e=>⟨ng7 g e,HOG.out g e⟩⟩
  have:=(HG6.out g e).1
  rw [q,HFA6.out] at this
  cases this
 ·have x0:w5.cell? ⟨Hx,0,none⟩=some (.int .i64 4):=cell_of_row _ _ 0 _ _ _ HX5.out
  have kad:=addAt yy.c 14 (yy.an 4) 1 (C.crow yy sa.now sa.last vv) 69 w5.drew HCR.out rfl (by rw [HY4.out.2];exact HAN.out 4) (by unfold I64;omega)
  rw [HY4.out.1] at kad;have KAD:=Lib.hid kad;clear kad;go_wp2_with fail
  go_still_tail 6,(by kernel_rfl)
  change wpList _ _ _ _ _ w5.drew;clear x0;go_upto_region 6 with (go_at_call 18;with_reducible refine KAD.out.mono ?_;rintro e6 w6 ⟨rfl,hr6,g6⟩)
  obtain ⟨h6,n6⟩:=Cor.count H5.out.drew (w':=w6) (HITS.out.kept ((Only.refl w5 (fun _=>False)).drewN 1) (fun _ _ q=>q)) HGG.out 4 (by decide) (by rw [HY4.out.1];exact hr6) (by rw [HY4.out.1];exact g6)
  have hr6':w6.heap[cb]?=some (.cells (crow { yy with an:=anF yy.an ((4:Nat):Int) } sa.now sa.last vv).toArray 69 (0,0)):=by
   rw [←crow_an yy sa.now sa.last vv 4 (by decide)];exact hr6
  have HR6:=Lib.hid hr6';have HX6:=Lib.hid (n6.blk HFX.out HX5.out);have HA6:=Lib.hid (n6.blk HFA.out HA5.out);have HFA6:=Lib.hid (n6.none HFA.out (lt_of_row HA5.out));have I6:=Lib.hid ((HITS.out.kept ((Only.refl w5 (fun _=>False)).drewN 1) (fun _ _ q=>q)).kept (Only.grown (S:=fun j=>j=cb) g6 (Or.inl rfl)) (fun g e=>by have:=(HGG.out g e).2;rw [HY4.out.1] at this;exact this))
  have HG6:=Lib.hid (fun g (e:G=some g)=>And.intro (own_old (u:=.core) (w':=w6) H5.out.drew (HGG.out g e).1) (show g≠yy.c from (HGG.out g e).2))
  have HN6:=Lib.hid (HN5.out.drew.trans n6);have H6:=Lib.hid h6;have x15:w6.cell? ⟨cb,15,none⟩=some vv:=cellL HR6.out 15 _ rfl;have x0:w6.cell? ⟨Hx,0,none⟩=some (.int .i64 4):=cell_of_row _ _ 0 _ _ _ HX6.out;have x1:w6.cell? ⟨Hx,1,none⟩=some (.int .i64 b1):=cell_of_row _ _ 1 _ _ _ HX6.out;have x2:w6.cell? ⟨Hx,2,none⟩=some (.int .i64 b2):=cell_of_row _ _ 2 _ _ _ HX6.out;have x3:w6.cell? ⟨Hx,3,none⟩=some (.int .i64 b3):=cell_of_row _ _ 3 _ _ _ HX6.out;clear hr6 hr6' g6 h6 n6 KAD HX5 HA5 HITS HGG HN5 H5 HCR HFX HFA
  go_wp2_with (first
   | (with_reducible refine wpList_store_one rfl 36 (.tmp 30) (.const (.slice none 0 0)) rfl SZ.out cb 15 rfl (.slice none 0 0) rfl rfl rfl _ _ HR6.out (by simp [crow]) ?_;intro w7 HR7 g7;have HX7:=Lib.hid ((Only.grown (S:=fun j=>j=cb) g7 (Or.inl rfl)).blk HCX.out HX6.out);have HA7:=Lib.hid ((Only.grown (S:=fun j=>j=cb) g7 (Or.inl rfl)).blk HCA.out HA6.out);clear x0 x1 x2 x3 x15;obtain ⟨x0,x1,x2,x3⟩:=an_cells HX7.out)
   | (with_reducible refine wpList_store_ans rfl (.tmp 4) (.tmp 31) rfl Ha 4 b1 b2 b3 rfl rfl 0 0 0 0 HA7 ?_;intro w8 HG8 g8))
  obtain ⟨o7,h7,n7,ng7,i7⟩:=Cor.taken H6.out (by rw [show ({ yy with an:=anF yy.an ((4:Nat):Int) }:Lay).c=cb from HY4.out.1];exact HR6.out) I6.out HG6.out (w':=w7) (by rw [show ({ yy with an:=anF yy.an ((4:Nat):Int) }:Lay).c=cb from HY4.out.1];exact HR7.out) (by rw [show ({ yy with an:=anF yy.an ((4:Nat):Int) }:Lay).c=cb from HY4.out.1];exact g7)
  have hfa7:=n7.none HFA6.out (lt_of_row HA6.out);have o8:Only w7 w8 (fun j=>j=Ha):=Only.grown g8 (Or.inl rfl);refine bodyPost_ret (ret_ans2 (fn:=Tryz.f8) rfl rfl rfl HG8) rfl ⟨vv,by rw [HAC.out];rfl,?_⟩
  unfold DoP;rw [HAC.out];refine ⟨{ yy with an:=anF yy.an ((4:Nat):Int) },o7,G,HY4.out.1,by rw [←HY4.out.2];rfl,h7.side o8 (fun j q=>by rw [q];exact hfa7),(HN6.out.trans n7).side o8 (fun j q=>by rw [q];exact HWA.out),i7.kept o8 (fun g e q=>?_),fun g e=>⟨ng7 g e,HOG.out g e⟩⟩
  have:=(HG6.out g e).1
  rw [q,HFA6.out] at this
  cases this
end Go.Proofs.YthdengocipfgiaaGreat.W.C
namespace Go.Proofs.YthdengocipfgiaaGreat.W.C
open Go.RowKit Go.Proofs.YthdengocipfgiaaGreat.W
attribute [local go_sem] Oper.semAt_some
open Classical in
noncomputable def St.doE (s:St) (e:Ev):St×Ans×List Cmd:=if right e then s.act e else (s,(1,0,0,1),[])
theorem St.doE_right {s:St} {e:Ev} (h:right e):s.doE e=s.act e:=if_pos h
theorem St.doE_not {s:St} {e:Ev} (h:¬ right e):s.doE e=(s,(1,0,0,1),[]):=if_neg h
theorem Inv.doE {K:Nat} {s:St} (h:Inv (K+64064) 0 s) (e:Ev):Inv K 0 (s.doE e).1:=by
 by_cases q:right e
 ·rw [St.doE_right q]
  obtain ⟨k,n,l,z,r,a,m,c,v,p⟩:=e;have:=(right_sm q).2
  exact h.act ⟨this.1.1,this.2.1,this.2.2⟩
 ·rw [St.doE_not q];exact h.mono (by omega) (Nat.le_refl _)
def Wk (w:World) (own:Nat→Option Tag) (c:Nat) (s:St):Prop:=∃ an,Cr w own c an s∧∀ j,I64 (an j)
theorem Wk.below {w w':World} {own:Nat→Option Tag} {c:Nat} {s:St} (h:Wk w own c s) (hb:Below w.heap.size w w'):Wk w' own c s:=h.imp fun _ q=>⟨q.1.below hb,q.2⟩
theorem Wk.side {w w':World} {own:Nat→Option Tag} {c:Nat} {s:St} {S:Nat→Prop} (h:Wk w own c s) (ho:Only w w' S) (hS:∀ j,S j→own j=none):Wk w' own c s:=h.imp fun _ q=>⟨q.1.side ho hS,q.2⟩
theorem Wk.fresh {w:World} {own:Nat→Option Tag} {c:Nat} {s:St} (h:Wk w own c s) {j:Nat} (hj:w.heap.size≤j):own j=none:=by obtain ⟨_,q,_⟩:=h;exact q.fresh hj
theorem Wk.lt {w:World} {own:Nat→Option Tag} {c:Nat} {s:St} (h:Wk w own c s) {j:Nat} (hj:own j≠none):j<w.heap.size:=by obtain ⟨_,q,_⟩:=h;exact q.lt hj
theorem Wk.blk {w:World} {own:Nat→Option Tag} {c:Nat} {s:St} (h:Wk w own c s):own c=some .core:=by obtain ⟨_,q,_⟩:=h;exact q.blk
abbrev DoW (w:World) (own:Nat→Option Tag) (c:Nat) (r:St×Ans×List Cmd) (sv:Value) (w':World):Prop :=
 ∃ own' G,Wk w' own' c r.1∧Nx w own w' own'∧Its cmdC 4 49 w' sv G r.2.2.length (outT r.2.2)∧∀ g,G=some g→own' g=none∧(own g≠none∨w.heap.size≤g)
theorem c_Do {w:World} {own:Nat→Option Tag} {c0:Nat} {s:St} (h:Wk w own c0 s) {K:Nat} (hI:Inv (K+64064) 0 s) (k n l z r a m c v p:Int) :
  Calls Tryz.prog 8 #[ptr c0,.agg #[.int .i64 k,.int .i64 n,.int .i64 l,.int .i64 z,.int .i64 r,.int .i64 a,.int .i64 m,.int .i64 c,.int .i64 v,.int .i64 p]] w
   fun e w'=>∃ sv,e=.returned (.tuple #[avl (s.doE ⟨k,n,l,z,r,a,m,c,v,p⟩).2.1,sv])∧DoW w own c0 (s.doE ⟨k,n,l,z,r,a,m,c,v,p⟩) sv w':=by
 obtain ⟨an,hC,han⟩:=h
 by_cases q:right ⟨k,n,l,z,r,a,m,c,v,p⟩
 ·rw [St.doE_right q]
  refine (c_DoC hC hI han k n l z r a m c v p q).mono ?_;rintro e w' ⟨sv,rfl,y',own',G,h1,h2,h3,h4,h5,h6⟩;refine ⟨sv,rfl,own',G,⟨y'.an,Or.inl ⟨y',h1,rfl,h3⟩,fun j=>?_⟩,h4,h5,h6⟩;rw [h2];unfold anF;split
  ·exact sat_i64 _
  ·exact han j
 ·rw [St.doE_not q]
  refine (c_DoN c0 k n l z r a m c v p w q).mono ?_;rintro e w' ⟨rfl,hb⟩;exact ⟨.slice none 0 0,rfl,own,none,⟨an,hC.below hb,han⟩,Nx.below own hb,Or.inl ⟨rfl,rfl,rfl⟩,fun g e=>nomatch e⟩
theorem c_NewW (w:World):Calls Tryz.prog 6 #[] w fun e w'=>∃ c own,e=.returned (ptr c)∧Wk w' own c St.zero∧w.heap.size≤c∧(∀ j,own j≠none→w.heap.size≤j)∧Below w.heap.size w w':=by
 refine (c_New w).mono ?_;rintro e w' ⟨rfl,h1,h2⟩;refine ⟨_,fun j=>if j=w.heap.size then some .core else none,rfl,⟨fun _=>0,Or.inr ⟨h1,rfl,rfl,rfl⟩,fun _=>by show I64 0;unfold I64;omega⟩,Nat.le_refl _,fun j q=>?_,h2⟩
 by_cases e:j=w.heap.size
 ·omega
 ·exact absurd (if_neg e) q
end Go.Proofs.YthdengocipfgiaaGreat.W.C
