import Derived.Test.YthdengocipfgiaaGreatCcA
import Derived.Test.YthdengocipfgiaaGreatCbI
/- A part of what core's laws stand on. -/
set_option linter.unusedVariables false
set_option linter.unusedSimpArgs false
set_option maxRecDepth 100000
set_option maxHeartbeats 3200000
namespace Go.Proofs.YthdengocipfgiaaGreat.W.C
open Go.RowKit Go.Proofs.YthdengocipfgiaaGreat.W
attribute [local go_sem] Oper.semAt_some
abbrev avl (a:Ans):Value:=.agg #[.int .i64 a.1,.int .i64 a.2.1,.int .i64 a.2.2.1,.int .i64 a.2.2.2]
abbrev ano (k b y e:Int):Obj:=.cells #[.int .i64 k,.int .i64 b,.int .i64 y,.int .i64 e] 35 (0,0)
theorem sizeAn:(Tryz.prog.info? 35).map (·.size)=some 4:=by kernel_rfl
theorem wpList_store_ans {w:World} {ops:Array Oper} {rest:List Oper} {o:Oper} {act:Act} {Q:Exit→Act→World→Prop} (hgd:o.guard=none) (x z:Operand) (ho:o.op=.store 35 x z)
  (g:Nat) (k b y e:Int) (hx:act.eval x=.pointer (some ⟨g,0,none⟩)) (hy:act.eval z=.agg #[.int .i64 k,.int .i64 b,.int .i64 y,.int .i64 e]) (k0 b0 y0 e0:Int)
  (HG:Hid (w.heap[g]?=some (ano k0 b0 y0 e0)))
  (hn:∀ w',Hid (w'.heap[g]?=some (ano k b y e))→w.grownBy w' (some g)→wpList Tryz.prog ops Q rest (act.put o.dst undef) w'):wpList Tryz.prog ops Q (o :: rest) act w:=by
 refine wpList_store_row hgd _ x z ho g _ hx hy _ _ HG.out sizeAn rfl (by simp [Value.oneCell']) ?_
 exact hn _ (Lib.hid (show _=_ from setRow_heap w g _ _ _ _ HG.out)) ⟨rfl,rfl,rfl,by simp [World.setRow],fun k _ hk=>setRow_other w g k _ (by intro e;exact hk (by rw [e]))⟩
theorem ret_ans {g:Nat} {k b y e:Int} {w:World} {fn:Func} {t:Tmp} {tmps:Array Value} (hf:fn.results=#[.cell t 35]) (ht:tmps.getD t undef=.pointer (some ⟨g,0,none⟩))
  (HG:Hid (w.heap[g]?=some (ano k b y e))):(results fn tmps).run Tryz.prog w=.ok (.agg #[.int .i64 k,.int .i64 b,.int .i64 y,.int .i64 e]) w :=
 results_cell_row hf tmps w g _ _ _ _ ht HG.out Tryz.underlying35 rfl sizeAn
theorem c_refused (x:Int) (w:World):Calls Tryz.prog 15 #[.int .i64 x] w fun e w'=>e=.returned (.agg #[.int .i64 1,.int .i64 0,.int .i64 0,.int .i64 x])∧Below w.heap.size w w':=by
 have hb:Below w.heap.size w (w.alloc (.cells #[.int .i64 0,.int .i64 0,.int .i64 0,.int .i64 0] 35)):=(Below.refl _ _).alloc (Nat.le_refl _) _;have hN:=Lib.hid (heap_alloc_new w (.cells #[.int .i64 0,.int .i64 0,.int .i64 0,.int .i64 0] 35))
 go_enter Tryz.func15,Tryz.ntmps15
 go_wp2_with (with_reducible refine wpList_store_ans rfl (.tmp 2) (.tmp 4) rfl w.heap.size 1 0 0 x rfl rfl 0 0 0 0 hN ?_;intro w4 HG4 hg4)
 refine bodyPost_ret (ret_ans (fn:=Tryz.f15) rfl rfl HG4) rfl ⟨rfl,?_⟩;exact below_row hb (Nat.le_refl _) hg4 hb.size
theorem c_throttled (x:Int) (w:World):Calls Tryz.prog 41 #[.int .i64 x] w fun e w'=>e=.returned (.agg #[.int .i64 4,.int .i64 0,.int .i64 x,.int .i64 0])∧Below w.heap.size w w':=by
 have hb:Below w.heap.size w (w.alloc (.cells #[.int .i64 0,.int .i64 0,.int .i64 0,.int .i64 0] 35)):=(Below.refl _ _).alloc (Nat.le_refl _) _;have hN:=Lib.hid (heap_alloc_new w (.cells #[.int .i64 0,.int .i64 0,.int .i64 0,.int .i64 0] 35))
 go_enter Tryz.func41,Tryz.ntmps41
 go_wp2_with (with_reducible refine wpList_store_ans rfl (.tmp 2) (.tmp 4) rfl w.heap.size 4 0 x 0 rfl rfl 0 0 0 0 hN ?_;intro w4 HG4 hg4)
 refine bodyPost_ret (ret_ans (fn:=Tryz.f41) rfl rfl HG4) rfl ⟨rfl,?_⟩;exact below_row hb (Nat.le_refl _) hg4 hb.size
theorem kill_tk {s:St} {i:Int}:(s.kill i).tk=s.tk:=by
 have hl:∀ (s2:St) (x:Int),(s2.leave x).tk=s2.tk:=fun s2 x=>by unfold St.leave;split <;> rfl
 show (s.gone i).tk=_;unfold St.gone;dsimp only;rw [hl]
 split <;> rfl
theorem clear_tk (x mem:Int):∀ (n:Nat) (s:St),(s.clear x mem n).tk=s.tk
 | 0,_=>rfl
 | n+1,s=>by
  unfold St.clear;dsimp only
  split
  ·rw [kill_tk];rfl
  ·rw [clear_tk x mem n,kill_tk];rfl
theorem room_tk (s:St) (mem:Int):(s.room mem).1.tk=s.tk:=by
 unfold St.room
 split
 ·rfl
 ·split
  ·exact clear_tk _ _ _ _
  ·rfl
theorem cold_0 {s:St} {f:Int} {g:Fu} {z r t:Nat} (eg:s.fu.a f=some g) (e:s.tk.a g.acc=some (z,r,t)) (h:t=0):s.cold f=(s,throttled 3):=by
 unfold St.cold;rw [St.G_of eg];dsimp only;rw [e];exact if_pos h
theorem cold_no {s s1:St} {f:Int} {g:Fu} {z r t:Nat} (eg:s.fu.a f=some g) (e:s.tk.a g.acc=some (z,r,t)) (h:t≠0) (hr:s.room g.mem=(s1,none)):s.cold f=(s1,throttled 4):=by
 unfold St.cold;rw [St.G_of eg];dsimp only;rw [e];dsimp only [Option.getD];rw [if_neg h,hr]
theorem cold_yes {s s1 s2:St} {f x:Int} {g:Fu} {z r t:Nat} (eg:s.fu.a f=some g) (e:s.tk.a g.acc=some (z,r,t)) (h:t≠0) (hr:s.room g.mem=(s1,some x)) (h2:({ s1 with tk:=s1.tk.set g.acc (z,r,t-1) }:St)=s2) :
  s.cold f=((s2.boot f x).begin f (s2.last+1),(3,s2.last+1,0,0)):=by
 subst h2;unfold St.cold;rw [St.G_of eg];dsimp only;rw [e];dsimp only [Option.getD];rw [if_neg h,hr];rfl
theorem begin_box {s:St} {f i:Int} {b:Bo} (e:s.bx i=some b) (hid:b.id=i):∃ b7,(s.begin f i).bx i=some b7∧b7.id=i:=by
 have hB:∀ s3:St,s3.bx=s.bx→s3.B i=b:=fun s3 h=>St.B_of (by rw [h];exact e)
 have hN:∀ (s3:St) (k:Nat) (now:Int),s3.bx=s.bx→(nx k (s3.B i) now).1.id=i:=fun s3 k now h=>by rw [nx_id,hB s3 h];exact hid
 unfold St.begin;dsimp only;exact ⟨_,setB_bx (hN _ _ _ rfl),hN _ _ _ rfl⟩
theorem c_cold {w:World} {own:Nat→Option Tag} {y:Lay} {s:St} (h:Cor w own y s) {K:Nat} (hI:Inv (K+1) 0 s) {f:Int} {g:Fu} (eg:s.fu.a f=some g) :
  Calls Tryz.prog 44 #[ptr y.c,ptr (y.fb f)] w fun e w'=>e=.returned (avl (s.cold f).2)∧Tb_ w own y (s.cold f).1 w':=by
 have hb0:Below w.heap.size w (w.alloc (.cells #[.int .i64 0,.int .i64 0,.int .i64 0,.int .i64 0] 35)):=(Below.refl _ _).alloc (Nat.le_refl _) _;have hrow0:=heap_alloc_new w (.cells #[.int .i64 0,.int .i64 0,.int .i64 0,.int .i64 0] 35);have hf0:=h.fresh (Nat.le_refl w.heap.size);have hfu:=hI.fu f g eg;have htks:=hfu.2.2.2.2.2.2.2.2.2.2.2.2.2.2.2.2;obtain ⟨⟨z,r,t⟩,ht⟩:=Option.isSome_iff_exists.1 htks;have hwa:(KL g.acc).wf=true:=wfK (by omega) (by omega)
 have HI:=Lib.hid hI;have HT:=Lib.hid ht;have HEG:=Lib.hid eg;obtain ⟨ac,hac⟩:∃ ac,g.acc=ac:=⟨_,rfl⟩;obtain ⟨me,hme⟩:∃ me,g.mem=me:=⟨_,rfl⟩;have HAC:=Lib.hid hac;have HME:=Lib.hid hme;clear hfu htks hI
 go_enter Tryz.func44,Tryz.ntmps44
 go_upto_region 1 with (fail)
 have h1:=h.below hb0;have HN1:=Lib.hid (Nx.below own hb0);obtain ⟨Ha,hHa⟩:∃ Ha,w.heap.size=Ha:=⟨_,rfl⟩;rw [hHa] at hrow0 hf0;rw [hHa];have HR1:Hid (_=some (ano 0 0 0 0)):=Lib.hid hrow0;have HF1:=Lib.hid hf0;have HWA:=Lib.hid (show w.heap.size≤Ha by omega)
 clear hrow0 hf0 hb0 hHa h;generalize w.alloc (.cells #[.int .i64 0,.int .i64 0,.int .i64 0,.int .i64 0] 35)=w1 at h1 HN1 HR1 ⊢;rw [hac] at ht hwa;have q3:=h1.c3;have q1:=h1.g1 eg;rw [hac] at q1;have lk:=h1.lb ht hwa;have lk1:=fun j=>(h1.drewN j).lb ht hwa;have lk2:=h1.drew.lb ht hwa;go_wp2_with fail
 go_quiet (fail)
 have h2:=h1.drewN nq;have HR2:Hid ((w1.drewN nq).heap[Ha]?=some (ano 0 0 0 0)):=HR1;have HN2:=Lib.hid (HN1.out.trans (⟨(Only.refl _ _).drewN nq,fun _ q=>Or.inl q⟩:Nx w1 own (w1.drewN nq) own));clear lk lk1 lk2 q3 q1 h1 HR1 HN1;generalize w1.drewN nq=w2 at h2 HR2 HN2 ⊢;obtain ⟨tI,htI⟩:∃ tI:Int,(t:Int)=tI:=⟨_,rfl⟩;have kt:=k_tokens h2 ht;rw [htI] at kt;have KT:=Lib.hid kt;clear kt
 by_cases h0:tI=0
 ·have HE:=Lib.hid (cold_0 eg HT.out (show t=0 by omega))
  have d:(tI == 0)=true:=by simp [h0]
  have KZ:=Lib.hid (c_throttled 3 w2);clear h0 htI ht eg hac hme hwa
  go_wp2_with (first
   | (go_at_call 69;with_reducible refine KT.out.mono ?_;rintro e3 w3 ⟨rfl,rfl⟩)
   | (go_at_call 41;with_reducible refine KZ.out.mono ?_;rintro e4 w4 ⟨rfl,hb4⟩;have HR4:=Lib.hid ((Only.of_below (S:=fun _=>False) hb4).blk (fun q=>q) HR2.out);have HB4:=Lib.hid hb4;clear hb4)
   | (with_reducible refine wpList_store_ans rfl (.tmp 4) (.tmp 21) rfl Ha 4 0 3 0 rfl rfl 0 0 0 0 HR4 ?_;intro w5 HG5 hg5))
  refine bodyPost_ret (ret_ans (fn:=Tryz.f44) rfl rfl HG5) rfl ?_;rw [HE.out];have o5:Only w4 w5 (fun j=>j=Ha):=Only.grown hg5 (Or.inl rfl);exact ⟨rfl,y.bx,own,(h2.below HB4.out).side o5 (fun j q=>by rw [q];exact HF1.out),(HN2.out.trans (Nx.below own HB4.out)).side o5 (fun j q=>by rw [q];exact HWA.out)⟩
 ·have d:(tI == 0)=false:=by simp [h0]
  have KR:=Lib.hid (c_room (iv4.v.v (K+1)) h2 HI.out me);have HT0:=Lib.hid (show t≠0 by omega)
  have q2:=h2.g2 eg;rw [hme] at q2;clear h0 htI ht hac hme
  go_upto_region 5 with (first
   | (go_at_call 69;with_reducible refine KT.out.mono ?_;rintro e3 w3 ⟨rfl,rfl⟩)
   | (go_at_call 70;with_reducible refine KR.out.mono ?_;rintro e4 w4 ⟨x,bb,rfl,hro,o4,h4,n4⟩;have HRO:=Lib.hid hro;clear hro))
  have HR4:=Lib.hid (n4.blk HF1.out HR2.out);have HF4:=Lib.hid (n4.none HF1.out (lt_of_row HR2.out));have HN4:=Lib.hid (HN2.out.trans n4);obtain ⟨s1,hs1⟩:∃ s1,(s.room me).1=s1:=⟨_,rfl⟩;obtain ⟨i1,i2,i3,i4,i5⟩:=HI.out.room me;have htk1:s1.tk=s.tk:=by rw [←hs1];exact room_tk _ _
  rw [hs1] at h4 i1 i2 i3 i4 i5;have HS1:=Lib.hid hs1;clear n4 HR2 HN2 h2 KT KR hs1 q2
  cases bb with
  | false =>
   have HE:=Lib.hid (cold_no eg HT.out HT0.out (s1:=s1) (by rw [HME.out];exact Prod.ext HS1.out (by have:=HRO.out;simpa using this)))
   have KZ:=Lib.hid (c_throttled 4 w4);clear eg i1 i2 i3 i4 i5 htk1
   go_wp2_with (first
    | (go_at_call 41;with_reducible refine KZ.out.mono ?_;rintro e5 w5 ⟨rfl,hb5⟩;have HR5:=Lib.hid ((Only.of_below (S:=fun _=>False) hb5).blk (fun q=>q) HR4.out);have HB5:=Lib.hid hb5;clear hb5)
    | (with_reducible refine wpList_store_ans rfl (.tmp 4) (.tmp 33) rfl Ha 4 0 4 0 rfl rfl 0 0 0 0 HR5 ?_;intro w6 HG6 hg6))
   refine bodyPost_ret (ret_ans (fn:=Tryz.f44) rfl rfl HG6) rfl ?_;rw [HE.out];have o6:Only w5 w6 (fun j=>j=Ha):=Only.grown hg6 (Or.inl rfl);exact ⟨rfl,y.bx,o4,(h4.below HB5.out).side o6 (fun j q=>by rw [q];exact HF4.out),(HN4.out.trans (Nx.below o4 HB5.out)).side o6 (fun j q=>by rw [q];exact HWA.out)⟩
  | true =>
   have hro:(s.room me).2=some x:=by have:=HRO.out;simpa using this
   obtain ⟨k1,k2⟩:=i2 x hro;obtain ⟨g',eg',_,hm',_⟩:=i3 f g eg;obtain ⟨s2,hs2⟩:∃ s2:St,({ s1 with tk:=s1.tk.set ac (z,r,t-1) }:St)=s2:=⟨_,rfl⟩;have HE:=Lib.hid (cold_yes (s1:=s1) (s2:=s2) (x:=x) eg HT.out HT0.out (by rw [HME.out];exact Prod.ext HS1.out hro) (by rw [HAC.out];exact hs2))
   have I2:Inv (K+1) 0 s2:=by rw [←hs2];exact i1.tkS _ (by have:=HI.out.fu f g HEG.out;rw [HAC.out] at this;omega)
   have ht1:s1.tk.a ac=some (z,r,t):=by rw [htk1,←HAC.out];exact HT.out
   have eg2:s2.fu.a f=some g':=by rw [←hs2];exact eg'
   have eh2:s2.H=s1.H:=by rw [←hs2]
   have ku:upB s2.H x=true:=by rw [eh2];exact k1
   obtain ⟨zz,uu,hH⟩:=upB_some ku;obtain ⟨px,epx⟩:=Option.isSome_iff_exists.1 (I2.ho _ _ _ _ hH).2.2.2.2.2.1;have U:=I2.unused;have B2:=I2.bd (by omega)
   have hm2:g'.mem≤fr s2.H x:=by rw [eh2,hm',HME.out];exact k2
   have I3:Inv K 0 (s2.boot f x):=I2.boot eg2 ku hm2;have B3:=I3.bd (by omega)
   have KTK:=Lib.hid (k_take h4 ht1);rw [hs2] at KTK;have KB:=Lib.hid (fun (W:World) (o:Nat→Option Tag) (hc:Cor W o y s2)=>c_boot hc B2 eg2 epx U);have e3:(s2.boot f x).bx (s2.last+1)=some ⟨s2.last+1,f,x,(s2.G f).mem,.boot,false,s2.now⟩:=boot_bx;have ep3:(s2.boot f x).pl.a x=some _:=boot_pl;have eg3:(s2.boot f x).fu.a f=some _:=boot_fu eg2;have KG:=Lib.hid (fun (W:World) (o:Nat→Option Tag) (blk:Nat) (hc:Cor W o (y.withB (s2.last+1) blk) (s2.boot f x))=>c_begin hc B3 e3 ep3 eg3);have HE3:=Lib.hid e3;obtain ⟨i,hi⟩:∃ i,s2.last+1=i:=⟨_,rfl⟩;clear e3 ep3 eg3 hm2 I3 B3 U B2 epx hH ku eh2 eg2 ht1 I2 hs2 eg' hm' k1 k2 hro i1 i2 i3 i4 i5 htk1 eg h4
   go_upto_region 9 with (first
    | (go_at_call 71;with_reducible refine KTK.out.mono ?_;rintro e5 w5 ⟨rfl,o5,h5,n5⟩)
    | (go_at_call 72;with_reducible refine (KB.out _ _ h5).mono ?_;rintro e6 w6 ⟨blk,rfl,o6,h6,n6⟩))
   have HR6:=Lib.hid (n6.blk (n5.none HF4.out (lt_of_row HR4.out)) (n5.blk HF4.out HR4.out));have HF6:=Lib.hid (n6.none (n5.none HF4.out (lt_of_row HR4.out)) (lt_of_row (n5.blk HF4.out HR4.out)));have HN6:=Lib.hid (HN4.out.trans (n5.trans n6))
   have kg:Calls Tryz.prog 43 #[ptr y.c,ptr (y.fb f),ptr blk] w6 fun e w'=>e=.returned (.tuple #[])∧To w6 o6 (y.withB (s2.last+1) blk) ((s2.boot f x).begin f (s2.last+1)) w':=by
    have:=KG.out _ _ blk h6
    rw [withB_at] at this;exact this
   have KGG:=Lib.hid kg;clear kg KG KB KTK n5 n6 h5 h6 HR4 HN4;go_upto_region 10 with (go_at_call 43;with_reducible refine KGG.out.mono ?_;rintro e7 w7 ⟨rfl,o7,h7,n7⟩)
   have HR7:=Lib.hid (n7.blk HF6.out HR6.out);have HF7:=Lib.hid (n7.none HF6.out (lt_of_row HR6.out));have HN7:=Lib.hid (HN6.out.trans n7)
   have qb:w7.cell? ⟨blk,0,none⟩=some (.int .i64 i):=by
    obtain ⟨b7,hb7,hid7⟩:∃ b7,((s2.boot f x).begin f (s2.last+1)).bx (s2.last+1)=some b7∧b7.id=s2.last+1:=begin_box HE3.out rfl;rw [←hi,←hid7];exact h7.nb0 hb7
   have H7:=Lib.hid h7;clear KGG n7 HR6 HN6 h7;go_wp2_with (with_reducible refine wpList_store_ans rfl (.tmp 4) (.tmp 48) rfl Ha 3 i 0 0 rfl rfl 0 0 0 0 HR7 ?_;intro w8 HG8 hg8)
   refine bodyPost_ret (ret_ans (fn:=Tryz.f44) rfl rfl HG8) rfl ?_;rw [HE.out];have o8:Only w7 w8 (fun j=>j=Ha):=Only.grown hg8 (Or.inl rfl);refine ⟨?_,(y.withB (s2.last+1) blk).bx,o7,H7.out.side o8 (fun j q=>by rw [q];exact HF7.out),HN7.out.side o8 (fun j q=>by rw [q];exact HWA.out)⟩
   show _=Ending.returned (avl (3,s2.last+1,0,0));rw [hi]
theorem call_none {s:St} {f:Int} (h:s.fu.a f=none):s.call f=(s,refused 2):=by unfold St.call;rw [h];rfl
theorem call_1 {s:St} {f:Int} {g:Fu} (h:s.fu.a f=some g) (h1:(askC s.A s.F f).1=1):s.call f=(s,throttled 1):=by unfold St.call;rw [h,if_pos (show (some g).isSome=true from rfl),if_pos h1]
theorem call_2 {s:St} {f:Int} {g:Fu} (h:s.fu.a f=some g) (h1:(askC s.A s.F f).1=2):s.call f=(s,throttled 2):=by unfold St.call;rw [h,if_pos (show (some g).isSome=true from rfl),if_neg (by omega),if_pos h1]
theorem call_f {s:St} {f i:Int} {g:Fu} (h:s.fu.a f=some g) (h1:(askC s.A s.F f).1≠1) (h2:(askC s.A s.F f).1≠2) (hi:s.fresh f=some i):s.call f=(s.begin f i,(2,i,0,0)):=by unfold St.call;rw [h,if_pos (show (some g).isSome=true from rfl),if_neg h1,if_neg h2,hi]
theorem call_c {s:St} {f:Int} {g:Fu} (h:s.fu.a f=some g) (h1:(askC s.A s.F f).1≠1) (h2:(askC s.A s.F f).1≠2) (hi:s.fresh f=none):s.call f=s.cold f:=by unfold St.call;rw [h,if_pos (show (some g).isSome=true from rfl),if_neg h1,if_neg h2,hi]
theorem c_call {w:World} {own:Nat→Option Tag} {y:Lay} {s:St} (h:Cor w own y s) {K:Nat} (hI:Inv (K+1) 0 s) (n:Int) (hwn:(KL n).wf=true) :
  Calls Tryz.prog 28 #[ptr y.c,.int .i64 n] w fun e w'=>e=.returned (avl (s.call n).2)∧Tb_ w own y (s.call n).1 w':=by
 have hb0:Below w.heap.size w (w.alloc (.cells #[.int .i64 0,.int .i64 0,.int .i64 0,.int .i64 0] 35)):=(Below.refl _ _).alloc (Nat.le_refl _) _;have hrow0:=heap_alloc_new w (.cells #[.int .i64 0,.int .i64 0,.int .i64 0,.int .i64 0] 35);have hf0:=h.fresh (Nat.le_refl w.heap.size);have HI:=Lib.hid hI;clear hI
 go_enter Tryz.func28,Tryz.ntmps28
 go_upto_region 1 with (fail)
 have h1:=h.below hb0;have HN1:=Lib.hid (Nx.below own hb0);obtain ⟨Ha,hHa⟩:∃ Ha,w.heap.size=Ha:=⟨_,rfl⟩;rw [hHa] at hrow0 hf0;rw [hHa];have HR1:Hid (_=some (ano 0 0 0 0)):=Lib.hid hrow0;have HF1:=Lib.hid hf0;have HWA:=Lib.hid (show w.heap.size≤Ha by omega)
 clear hrow0 hf0 hb0 hHa h;generalize w.alloc (.cells #[.int .i64 0,.int .i64 0,.int .i64 0,.int .i64 0] 35)=w1 at h1 HN1 HR1 ⊢;have q4:=h1.c4
 cases hf:s.fu.a n with
 | none =>
  have HE:=Lib.hid (call_none hf);have lk:=h1.lfN hf hwn;have KZ:=Lib.hid (c_refused 2 w1);clear hf hwn
  go_wp2_with (first
   | (go_at_call 15;with_reducible refine KZ.out.mono ?_;rintro e5 w5 ⟨rfl,hb5⟩;have HR5:=Lib.hid ((Only.of_below (S:=fun _=>False) hb5).blk (fun q=>q) HR1.out);have HB5:=Lib.hid hb5;clear hb5)
   | (with_reducible refine wpList_store_ans rfl (.tmp 4) (.tmp 22) rfl Ha 1 0 0 2 rfl rfl 0 0 0 0 HR5 ?_;intro w6 HG6 hg6))
  refine bodyPost_ret (ret_ans (fn:=Tryz.f28) rfl rfl HG6) rfl ?_;rw [HE.out];have o6:Only w5 w6 (fun j=>j=Ha):=Only.grown hg6 (Or.inl rfl);exact ⟨rfl,y.bx,own,(h1.below HB5.out).side o6 (fun j q=>by rw [q];exact HF1.out),(HN1.out.trans (Nx.below own HB5.out)).side o6 (fun j q=>by rw [q];exact HWA.out)⟩
 | some g =>
  have lk:=h1.lfK hf hwn;have q2:=h1.c2;have ka:=k_ask h1 n;obtain ⟨a1,ha1⟩:∃ a1,(askC s.A s.F n).1=a1:=⟨_,rfl⟩;obtain ⟨a2,ha2⟩:∃ a2,(askC s.A s.F n).2=a2:=⟨_,rfl⟩;obtain ⟨v,hv⟩:∃ v:Int,(a1:Int)=v:=⟨_,rfl⟩;rw [ha1,ha2,hv] at ka;have KA:=Lib.hid ka;have HA:=Lib.hid (And.intro ha1 hv);have HFU:=Lib.hid hf;clear ka ha1 ha2 hv;go_upto_region 5 with (go_at_call 40;with_reducible refine KA.out.mono ?_;rintro e2 w2 ⟨rfl,o2,h2,n2⟩)
  have HR2:=Lib.hid (n2.blk HF1.out HR1.out);have HF2:=Lib.hid (n2.none HF1.out (lt_of_row HR1.out));have HN2:=Lib.hid (HN1.out.trans n2);clear lk q2 KA n2 q4 h1 HR1 HN1 HF1
  by_cases h1:v=1
  ·have HE:=Lib.hid (call_1 hf (by have:=HA.out;omega))
   have KZ:=Lib.hid (c_throttled 1 w2);subst h1;clear hf hwn HA
   go_wp2_with (first
    | (go_at_call 41;with_reducible refine KZ.out.mono ?_;rintro e5 w5 ⟨rfl,hb5⟩;have HR5:=Lib.hid ((Only.of_below (S:=fun _=>False) hb5).blk (fun q=>q) HR2.out);have HB5:=Lib.hid hb5;clear hb5)
    | (with_reducible refine wpList_store_ans rfl (.tmp 4) (.tmp 35) rfl Ha 4 0 1 0 rfl rfl 0 0 0 0 HR5 ?_;intro w6 HG6 hg6))
   refine bodyPost_ret (ret_ans (fn:=Tryz.f28) rfl rfl HG6) rfl ?_;rw [HE.out];have o6:Only w5 w6 (fun j=>j=Ha):=Only.grown hg6 (Or.inl rfl);exact ⟨rfl,y.bx,o2,(h2.below HB5.out).side o6 (fun j q=>by rw [q];exact HF2.out),(HN2.out.trans (Nx.below o2 HB5.out)).side o6 (fun j q=>by rw [q];exact HWA.out)⟩
  ·have d1:(v == 1)=false:=by simp [h1]
   by_cases h2':v=2
   ·have HE:=Lib.hid (call_2 hf (by have:=HA.out;omega))
    have KZ:=Lib.hid (c_throttled 2 w2);subst h2';clear hf hwn HA h1
    go_wp2_with (first
     | (go_at_call 41;with_reducible refine KZ.out.mono ?_;rintro e5 w5 ⟨rfl,hb5⟩;have HR5:=Lib.hid ((Only.of_below (S:=fun _=>False) hb5).blk (fun q=>q) HR2.out);have HB5:=Lib.hid hb5;clear hb5)
     | (with_reducible refine wpList_store_ans rfl (.tmp 4) (.tmp 38) rfl Ha 4 0 2 0 rfl rfl 0 0 0 0 HR5 ?_;intro w6 HG6 hg6))
    refine bodyPost_ret (ret_ans (fn:=Tryz.f28) rfl rfl HG6) rfl ?_;rw [HE.out];have o6:Only w5 w6 (fun j=>j=Ha):=Only.grown hg6 (Or.inl rfl);exact ⟨rfl,y.bx,o2,(h2.below HB5.out).side o6 (fun j q=>by rw [q];exact HF2.out),(HN2.out.trans (Nx.below o2 HB5.out)).side o6 (fun j q=>by rw [q];exact HWA.out)⟩
   ·have d2:(v == 2)=false:=by simp [h2']
    have HA2:=Lib.hid (show (askC s.A s.F n).1≠1∧(askC s.A s.F n).1≠2 by have:=HA.out;omega)
    have B:=HI.out.bd (by omega)
    have kf:=c_freshest h2 B hf (fun i q=>by
     rcases q with q | q
     ·obtain ⟨b,hb,_⟩:=HI.out.pi n g i hf q;exact ⟨b,hb⟩
     ·obtain ⟨b,hb,_⟩:=HI.out.lo n g i hf q;exact ⟨b,hb⟩)
    clear h1 h2' HA
    cases hfr:s.fresh n with
    | none =>
     rw [hfr] at kf;simp only [oP,Option.isSome_none] at kf;have KF:=Lib.hid kf;have HE:=Lib.hid (call_c hf HA2.out.1 HA2.out.2 hfr);have KC:=Lib.hid (fun (W:World) (o:Nat→Option Tag) (hc:Cor W o y s)=>c_cold hc HI.out hf);obtain ⟨an,han⟩:∃ an,(s.cold n).2=an:=⟨_,rfl⟩;obtain ⟨b1,b2,b3,b4⟩:=an;rw [han] at KC;have HAN:=Lib.hid han;have H2:=Lib.hid h2;clear kf hfr hf hwn B han h2
     go_wp2_with (first
      | (go_at_call 42;with_reducible refine KF.out.mono ?_;rintro e3 w3 ⟨rfl,hb3⟩;have HB3:=Lib.hid hb3;clear hb3)
      | (go_at_call 44;with_reducible refine (KC.out _ _ (H2.out.below HB3.out)).mono ?_;rintro e4 w4 ⟨rfl,b9,o4,h4,n4⟩;have HR4:=Lib.hid (n4.blk HF2.out ((Only.of_below (S:=fun _=>False) HB3.out).blk (fun q=>q) HR2.out));have HF4:=Lib.hid (n4.none HF2.out (lt_of_row ((Only.of_below (S:=fun _=>False) HB3.out).blk (fun q=>q) HR2.out)));have HN4:=Lib.hid ((HN2.out.trans (Nx.below o2 HB3.out)).trans n4);clear n4)
      | (with_reducible refine wpList_store_ans rfl (.tmp 4) (.tmp 56) rfl Ha b1 b2 b3 b4 rfl rfl 0 0 0 0 HR4 ?_;intro w6 HG6 hg6))
     refine bodyPost_ret (ret_ans (fn:=Tryz.f28) rfl rfl HG6) rfl ?_;rw [HE.out,HAN.out];have o6:Only w4 w6 (fun j=>j=Ha):=Only.grown hg6 (Or.inl rfl);exact ⟨rfl,b9,o4,h4.side o6 (fun j q=>by rw [q];exact HF4.out),HN4.out.side o6 (fun j q=>by rw [q];exact HWA.out)⟩
    | some i =>
     rw [hfr] at kf;simp only [oP,Option.isSome_some] at kf;have KF:=Lib.hid kf;have HE:=Lib.hid (call_f hf HA2.out.1 HA2.out.2 hfr);obtain ⟨b,hb,hu,hbf,_⟩:=HI.out.fresh hf hfr;obtain ⟨_,p,ep,_⟩:=HI.out.onP i b hb hu;have eg':s.fu.a b.fn=some g:=by rw [hbf];exact hf
     have hid:=(B.bx i b hb).1
     have KC:Hid (∀ (W:World) (o:Nat→Option Tag),Cor W o y s→Calls Tryz.prog 43 #[ptr y.c,ptr (y.fb n),ptr (y.bx i)] W fun e w'=>e=.returned (.tuple #[])∧To W o y (s.begin n i) w'):=Lib.hid (fun W o hc=>by
      have:=c_begin hc B hb ep eg'
      rw [hbf] at this;exact this)
     obtain ⟨b7,hb7,hid7⟩:=begin_box (f:=n) hb hid;have HB7:=Lib.hid (And.intro hb7 hid7);have H2:=Lib.hid h2;clear kf hfr hf hwn B hb hu hbf ep eg' hid hb7 hid7 h2
     go_upto_region 13 with (first
      | (go_at_call 42;with_reducible refine KF.out.mono ?_;rintro e3 w3 ⟨rfl,hb3⟩;have HB3:=Lib.hid hb3;clear hb3)
      | (go_at_call 43;with_reducible refine (KC.out _ _ (H2.out.below HB3.out)).mono ?_;rintro e4 w4 ⟨rfl,o4,h4,n4⟩;have HR4:=Lib.hid (n4.blk HF2.out ((Only.of_below (S:=fun _=>False) HB3.out).blk (fun q=>q) HR2.out));have HF4:=Lib.hid (n4.none HF2.out (lt_of_row ((Only.of_below (S:=fun _=>False) HB3.out).blk (fun q=>q) HR2.out)));have HN4:=Lib.hid ((HN2.out.trans (Nx.below o2 HB3.out)).trans n4);clear n4))
     have qb:w4.cell? ⟨y.bx i,0,none⟩=some (.int .i64 i):=by have:=h4.b0 HB7.out.1;rw [HB7.out.2] at this;exact this
     have H4:=Lib.hid h4;clear h4 KF KC H2;go_wp2_with (with_reducible refine wpList_store_ans rfl (.tmp 4) (.tmp 53) rfl Ha 2 i 0 0 rfl rfl 0 0 0 0 HR4 ?_;intro w6 HG6 hg6)
     refine bodyPost_ret (ret_ans (fn:=Tryz.f28) rfl rfl HG6) rfl ?_;rw [HE.out];have o6:Only w4 w6 (fun j=>j=Ha):=Only.grown hg6 (Or.inl rfl);exact ⟨rfl,y.bx,o4,H4.out.side o6 (fun j q=>by rw [q];exact HF4.out),HN4.out.side o6 (fun j q=>by rw [q];exact HWA.out)⟩
end Go.Proofs.YthdengocipfgiaaGreat.W.C
