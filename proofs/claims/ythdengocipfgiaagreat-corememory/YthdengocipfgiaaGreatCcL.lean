import Derived.Test.YthdengocipfgiaaGreatCcK
import Derived.BigQuiet
/- A part of what core's laws stand on. -/
set_option linter.unusedVariables false
set_option linter.unusedSimpArgs false
set_option maxRecDepth 100000
set_option maxHeartbeats 3200000
namespace Go.Proofs.YthdengocipfgiaaGreat.W.C
open Go.RowKit Go.Proofs.YthdengocipfgiaaGreat.W
attribute [local go_sem] Oper.semAt_some
theorem wpList_make_many {P:Program} {I:Type} {ic:I→List Value} {w:World} {ops:Array Oper} {rest:List Oper} {o:Oper} {a:Act} {Q:Exit→Act→World→Prop}
  (hg:o.guard=none) (l c:Operand) (t:TypeId) (hop:o.op=Op.makeSlice t l c)
  (e:TypeId) (i:TypeInfo) (z:Value) (sz:Nat) (h1:P.underlying t=some (.slice e)) (h2:P.info? e=some i) (h3:i.zero=some z) (h4:i.size=sz)
  (kl kc:IntKind) (L C:Int) (m:Nat) (T:Nat→I) (hl:a.eval l=.int kl L) (hc:a.eval c=.int kc C) (hL:L=0) (hC:C=(m:Int)) (b2:i.bytes*m≤281474976710656) (b3:m≤140737488355328)
  (hK:∀ w',Hid (Row ic sz e w' w.heap.size 0 m T)→w.grownBy w' none→w'.heap.size=w.heap.size+1→wpList P ops Q rest (a.put o.dst (.slice (some ⟨w.heap.size,0,none⟩) 0 m)) w') :
  wpList P ops Q (o :: rest) a w:=by
 refine wpList_plain hg fun K hK'=>?_;subst hL;subst hC
 have hb':(i.bytes:Int)*(m:Int)≤281474976710656:=by
  have h:((i.bytes*m:Nat):Int)≤281474976710656:=by omega
  rwa [Int.natCast_mul] at h
 have hr:=run_make (P:=P) w t e i z h1 h2 h3 kl kc 0 m (by omega) (by omega) hb' (by omega)
 simp only [Int.toNat_natCast,Int.toNat_zero] at hr;unfold Oper.wp;simp [execOp,hop,hl,hc,hr,Result.andThen];refine hK' _ _ (hK _ (Lib.hid ⟨(madeCells z.cells (m*i.size)).toList,?_,?_,Nat.zero_le _,by simp only [maxLen];omega,fun j hj=>by omega⟩) (World.grownBy_alloc w _ none) (by simp))
 ·show (w.alloc _).heap[w.heap.size]?=_
  rw [heap_alloc_new]
 ·rw [Array.length_toList,size_madeCells,h4]
theorem encBx:Enc brow 8:=⟨fun _=>rfl,by decide,fun x u hu=>by
 simp only [brow,bcs,List.mem_cons,List.not_mem_nil,or_false] at hu
 rcases hu with rfl | rfl | rfl | rfl | rfl | rfl | rfl | rfl <;> rfl⟩
theorem infoBx:(Tryz.prog.info? 43).map (fun i=>(i.zero,i.size,i.bytes))=some (some (.agg #[.int .i64 0,.int .i64 0,.int .i64 0,.int .i64 0,.int .i64 0,.bool false,.bool false,.int .i64 0]),8,56):=by kernel_rfl
theorem bx_cells {w:World} {g:Nat} {b:Bo} (h:Bx w g b):w.cell? ⟨g,0,none⟩=some (.int .i64 b.id)∧w.cell? ⟨g,1,none⟩=some (.int .i64 b.fn)∧w.cell? ⟨g,2,none⟩=some (.int .i64 b.ho)∧w.cell? ⟨g,3,none⟩=some (.int .i64 b.me)∧w.cell? ⟨g,4,none⟩=some (.int .i64 b.q.st)∧w.cell? ⟨g,5,none⟩=some (.bool b.q.bd)∧w.cell? ⟨g,6,none⟩=some (.bool b.p)∧w.cell? ⟨g,7,none⟩=some (.int .i64 b.t) :=
 ⟨cellL h 0 _ rfl,cellL h 1 _ rfl,cellL h 2 _ rfl,cellL h 3 _ rfl,cellL h 4 _ rfl,cellL h 5 _ rfl,cellL h 6 _ rfl,cellL h 7 _ rfl⟩
theorem bx_range (w:World) (b:Bo):(w.alloc (.cells #[.int .i64 b.id,.int .i64 b.fn,.int .i64 b.ho,.int .i64 b.me,.int .i64 b.q.st,.bool b.q.bd,.bool b.p,.int .i64 b.t] 43)).rangeAt w.heap.size 0 (brow b):=by
 intro j u hu;rw [Nat.zero_add];exact cellL (heap_alloc_new w _) j u hu
theorem k_risingX {w:World} {own:Nat→Option Tag} {y:Lay} {s:St} (h:Cor w own y s) {K:Nat} (hI:Inv K 0 s):Calls Tryz.prog 19 #[.map (some y.mx)] w fun e w'=>∃ G c,e=.returned (.slice (some ⟨G,0,none⟩) (ups s.mx s.last).length c)∧w'.ownsRow w.heap.size 45 1 (.slice (some ⟨G,0,none⟩) (ups s.mx s.last).length c) (ups s.mx s.last).length ((ups s.mx s.last).map (fun i=>ptr (y.bx i)))∧Below w.heap.size w w' :=
 have hbx:∀ i,(s.mx.a i).isSome=true→∃ b,s.bx i=some b∧b.id=i∧1≤i∧i≤s.last:=fun i q=>by
  obtain ⟨b,hb,_⟩:=hI.alive q;have:=hI.bx i b hb
  exact ⟨b,hb,this.1,this.2.1,this.2.2.1⟩
 c_rising w y.mx s.mx.n (fun i=>(s.mx.a i).isSome) y.bx (fun i=>(s.mx.a i).map (fun _=>ptr (y.bx i))) _ (h.ob .mx).2 (fun i=>by cases s.mx.a i <;> simp) (by have:=hI.mxle;have:=hI.last;omega)
  (fun i q=>by
   obtain ⟨b,hb,k1,_⟩:=hbx i q;have k:=h.b0 hb;rw [k1] at k;exact k)
  (ups_pw _ _)
  (fun i=>by
   rw [mem_ups]
   constructor
   ·exact fun q=>q.2.2
   ·intro q
    obtain ⟨b,hb,_,k⟩:=hbx i q;exact ⟨k.1,k.2,q⟩)
  (fun i q=>by
   obtain ⟨b,hb,_,k⟩:=hbx i q;have:=hI.last
   exact wfK (by omega) (by omega))
theorem ups_len {s:St} {K:Nat} (hI:Inv K 0 s):(ups s.mx s.last).length≤1073741824:=by
 unfold ups;refine Nat.le_trans (List.length_filter_le _ _) ?_;rw [List.length_map,List.length_range];have:=hI.last
 omega
def St.box (s:St) (j:Nat):Bo:=s.B ((ups s.mx s.last).getD j 0)
theorem c_BoxesC {w:World} {own:Nat→Option Tag} {y:Lay} {s:St} (h:Cor w own y s) {K:Nat} (hI:Inv K 0 s):Calls Tryz.prog 9 #[ptr y.c] w fun e w'=>∃ g cap,e=.returned (.slice (some ⟨g,0,none⟩) (ups s.mx s.last).length cap)∧Row brow 8 43 w' g (ups s.mx s.last).length cap s.box∧w.heap.size≤g∧Below w.heap.size w w':=by
 obtain ⟨vv,GG,hcr,_⟩:=h.coreAll;have hc7:w.cell? ⟨y.c,7,none⟩=some (.map (some y.mx)):=cellL hcr 7 _ rfl;have hcl:=lt_of_row hcr;have HCR:=Lib.hid hcr;have hmx:Mp Tryz.prog 3 w y.mx (fun i=>(s.mx.a i).map (fun _=>ptr (y.bx i))) s.mx.n:=(h.ob .mx).2;have hmn:s.mx.n≤1073741824:=by have:=hI.mxle;have:=hI.last;omega
 have HI:=Lib.hid hI
 obtain ⟨iB,hiB⟩:∃ i,Tryz.prog.info? 43=some i:=by
  cases q:Tryz.prog.info? 43 with
  | none=>have:=infoBx;rw [q] at this;cases this
  | some i=>exact ⟨i,rfl⟩
 have hib:=infoBx;rw [hiB] at hib;simp only [Option.map_some,Option.some.injEq,Prod.mk.injEq] at hib;obtain ⟨hi2,hi3,hi4⟩:=hib;have HBY:=Lib.hid (show iB.bytes*s.mx.n≤281474976710656 by rw [hi4];omega)
 have HMN:=Lib.hid (show s.mx.n≤140737488355328 by omega)
 clear hcr hI
 go_enter Tryz.func9,Tryz.ntmps9
 go_upto_region 2 with (first
  | (at_len;go_loud (refine wpList_mp_len rfl (.tmp 9) 57 rfl 3 45 Tryz.underlying57 y.mx _ s.mx.n rfl hmx ?_))
  | (at_make;go_loud (refine wpList_make_many (ic:=brow) rfl (.const (.int .i64 0)) (.tmp 10) 39 rfl 43 iB (.agg #[.int .i64 0,.int .i64 0,.int .i64 0,.int .i64 0,.int .i64 0,.bool false,.bool false,.int .i64 0]) 8 Tryz.underlying39 hiB hi2 hi3 .i64 .i64 0 (s.mx.n:Int) s.mx.n s.box rfl rfl rfl rfl HBY.out HMN.out ?_;intro w3 HG3 hg3 hs3)))
 have h3:=h.below (grown_below hg3);have hc73:w3.cell? ⟨y.c,7,none⟩=some (.map (some y.mx)):=(Only.grownN (S:=fun _=>False) hg3).cell (fun q=>q) hc7;have kr:=k_risingX h3 HI.out;have hbx:∀ i ∈ ups s.mx s.last,∃ b,s.bx i=some b:=fun i q=>by obtain ⟨b,hb,_⟩:=HI.out.alive (mem_ups.1 q).2.2;exact ⟨b,hb⟩
 have HBX:=Lib.hid hbx;have HSB:Hid (∀ j,s.box j=s.B ((ups s.mx s.last).getD j 0)):=Lib.hid (fun _=>rfl);obtain ⟨R,hR⟩:∃ R,ups s.mx s.last=R:=⟨_,rfl⟩;rw [hR] at kr HBX HSB;have HRR:=Lib.hid hR;have HMR:Hid (R.length≤1073741824):=Lib.hid (by rw [←hR];exact ups_len HI.out)
 have KR:=Lib.hid kr;have HHM:=Lib.hid (h.fresh (Nat.le_refl w.heap.size));obtain ⟨Hm,hHm⟩:∃ Hm,w.heap.size=Hm:=⟨_,rfl⟩;have HHH:=Lib.hid hHm;rw [hHm] at HG3 HHM
 try rw [hHm]
 have b3:=Lib.hid (grown_below hg3);have HS3:=Lib.hid hs3;clear kr hR hHm hmx hc7 h hbx hg3 hs3 hcl HCR;go_wp2_with fail
 with_reducible refine KR.out.mono ?_
 rintro e w4 ⟨gs,cp,rfl,own4,b4⟩;have h4:=h3.below b4;have hgs:=(own_cap own4).2.2;have HC:Hid (∀ k (hk:k<R.length),w4.cell? ⟨gs,k,none⟩=some (ptr (y.bx R[k]))):=Lib.hid (fun k hk=>by have:=lies_cell own4 (k:=k) (by simpa using hk);simpa using this)
 have HR4:=Lib.hid (Row.kept HG3.out (Only.of_below (S:=fun _=>False) b4) (fun q=>q));have HB4:=Lib.hid (b3.out.trans (b4.mono b3.out.size));have HS4:=Lib.hid (show Hm<w4.heap.size∧Hm≠gs by have:=b4.size;have:=HS3.out;have:=HHH.out;omega)
 obtain ⟨N,hN⟩:∃ N,R.length=N:=⟨_,rfl⟩;have HNN:=Lib.hid hN;have hNc:=(own_cap own4).1;have hNm:=own_max own4;have HNm:Hid (N≤1073741824):=Lib.hid (by have:=HMR.out;omega)
 rw [hN] at hNc;rw [hN];have H4:=Lib.hid h4;clear own4 b4 hgs hN KR h3 h4 hc73 b3 HG3;go_wp2_with fail
 go_loopg [3,18] N (fun gk v3 v18 wr=>∃ (k g cap:Nat),v3=.slice (some ⟨g,0,none⟩) k cap∧v18=.int .i64 (k:Int)∧Hid (k+gk=N)∧Hid (Row brow 8 43 wr g k cap s.box)∧Hid (Only w4 wr (fun j=>j=Hm))∧Hid (g=Hm∨w4.heap.size≤g))
 case atStart=>exact ⟨0,Hm,s.mx.n,rfl,rfl,Lib.hid (by omega),HR4,Lib.hid (Only.refl _ _),Lib.hid (Or.inl rfl)⟩
 case round =>
  obtain ⟨k,g,cap,rfl,rfl,HG,HRW,HO,HGE⟩:=hrel
  by_cases hk:k<N
  ·have hkI:(k:Int)<(N:Int):=by omega
   have hkR:k<R.length:=by have:=HNN.out;omega
   obtain ⟨b,hb⟩:=HBX.out R[k] (List.getElem_mem hkR);have hgc:wr.cell? ⟨gs,k,none⟩=some (ptr (y.bx R[k])):=HO.out.cell (fun q=>HS4.out.2 q.symm) (HC.out k hkR);have hob:=(H4.out.ob (.bx R[k])) b hb;have hbb:Bx wr (y.bx R[k]) b:=HO.out.blk (fun q=>by have:=hob.1;rw [q,HHM.out] at this;cases this) hob.2
   have HBB:=Lib.hid hbb;have HBE:Hid (s.box k=b):=Lib.hid (by rw [HSB.out k,show R.getD k 0=R[k] by simp [List.getD,hkR]];exact St.B_of hb)
   obtain ⟨q,hq⟩:∃ q,y.bx R[k]=q:=⟨_,rfl⟩;rw [hq] at hgc HBB;have HK:=Lib.hid hk;clear hk hkR hbb hob hb hq;obtain ⟨x0,x1,x2,x3,x4,x5,x6,x7⟩:=bx_cells HBB.out;go_upto_region 5 with fail
   have its7:Its brow 8 43 (wr.alloc (.cells #[.int .i64 b.id,.int .i64 b.fn,.int .i64 b.ho,.int .i64 b.me,.int .i64 b.q.st,.bool b.q.bd,.bool b.p,.int .i64 b.t] 43)) (.slice (some ⟨g,0,none⟩) k cap) (some g) k s.box:=Or.inr ⟨g,cap,rfl,rfl,Row.kept HRW.out (((Only.refl wr (fun _=>False)).alloc _)) (fun q=>q)⟩;have hrg:=bx_range wr b;have hmx:k+1≤maxLen:=by have:=HK.out;have:=HNm.out;unfold maxLen;omega
   have hby:(k+1)*56≤140737488355328:=by have:=HK.out;have:=HNm.out;omega
   go_wp2_with (at_builtin;refine wpList_item_app encBx rfl (.tmp 22) (.tmp 26) 39 rfl iB (.agg #[.int .i64 0,.int .i64 0,.int .i64 0,.int .i64 0,.int .i64 0,.bool false,.bool false,.int .i64 0]) 56 Tryz.underlying39 hiB hi2 hi3 hi4 rfl _ (some g) k s.box rfl its7 b wr.heap.size rfl hrg hmx hby ?_;intro g' cap' w7 row7 hon7 hgg7)
   have o7:=((Only.refl wr (fun j=>j=g)).alloc (.cells #[.int .i64 b.id,.int .i64 b.fn,.int .i64 b.ho,.int .i64 b.me,.int .i64 b.q.st,.bool b.q.bd,.bool b.p,.int .i64 b.t] 43)).tr (hon7 (fun j=>j=g) (fun j q=>by cases q;rfl))
   go_roundg (N-(k+1))
   case measure=>have:=HK.out;have:=HG.out;omega
   case rel=>exact ⟨k+1,g',cap',rfl,rfl,Lib.hid (by have:=HK.out;omega),Lib.hid (row7.ext (fun j hj=>by unfold upd;split;rename_i e;rw [e];exact HBE.out;rfl)),Lib.hid (HO.out.trans o7 (fun j q=>by rw [q];exact HGE.out)),Lib.hid (by
    have hs:=HO.out.size
    rcases hgg7 with q | q
    ·cases q;exact HGE.out
    ·rw [World.size_alloc] at q;exact Or.inr (by omega))⟩
  ·have hkn:k=N:=by have:=HG.out;omega
   subst hkn;go_wp2_with fail
   go_ret
   have hrow:=HRW.out;exact ⟨g,cap,by rw [HRR.out,HNN.out];rfl,by rw [HRR.out,HNN.out];exact hrow,by have:=HS4.out.1;have:=HHH.out;rcases HGE.out with q | q <;> omega,HB4.out.trans (HO.out.below (fun j q=>by rw [q];have:=HHH.out;omega) HB4.out.size)⟩
end Go.Proofs.YthdengocipfgiaaGreat.W.C
namespace Go.Proofs.YthdengocipfgiaaGreat.W
open Go.RowKit Go.Maps Go.ChangeMaps Go.MapKept
section
variable {P:Program} {w:World} {ops:Array Oper} {rest:List Oper} {o:Oper} {a:Act} {Q:Exit→Act→World→Prop}
theorem wpList_rng0 (hg:o.guard=none) (m:Operand) (t:TypeId) (hop:o.op=Op.range t m) (k e:TypeId) (ht:P.underlying t=some (.map k e)) (hm:a.eval m=.map none)
  (hK:wpList P ops Q rest (a.put o.dst (.pointer (some ⟨w.heap.size,0,none⟩))) (w.alloc (.mapIter none 0 #[] 0))):wpList P ops Q (o :: rest) a w:=by
 refine wpList_plain hg fun K hK'=>?_;have hr:=run_range_nilMap (P:=P) w t k e ht;unfold Oper.wp;simp [execOp,hop,hm,hr,Result.andThen];exact hK' _ _ hK
theorem wpList_nxt0 (hg:o.guard=none) (it:Operand) (hop:o.op=Op.next it false) (r:Nat) (hit:a.eval it=.pointer (some ⟨r,0,none⟩)) (hr:w.heap[r]?=some (.mapIter none 0 #[] 0))
  (hK:wpList P ops Q rest (a.put o.dst (.tuple #[.bool false])) w):wpList P ops Q (o :: rest) a w:=by
 refine wpList_plain hg fun K hK'=>?_
 have hn:∀ ty,(Instr.next (.pointer (some ⟨r,0,none⟩)) false ty).run P w=.ok (.tuple #[.bool false]) w:=fun ty=>by
  simp only [Instr.next,getObj,Sem.run_bind,Sem.run,hr,Result.andThen];rfl
 unfold Oper.wp;simp [execOp,hop,hit,hn,Result.andThen];exact hK' _ _ hK
end
end Go.Proofs.YthdengocipfgiaaGreat.W
namespace Go.Proofs.YthdengocipfgiaaGreat.W.C
open Go.RowKit Go.Proofs.YthdengocipfgiaaGreat.W
attribute [local go_sem] Oper.semAt_some
theorem c_rising0 (w:World):Calls Tryz.prog 19 #[.map none] w fun e w'=>∃ g c,e=.returned (.slice (some ⟨g,0,none⟩) 0 c)∧w.heap.size≤g∧Below w.heap.size w w':=by
 have hi0:=infoBP
 cases hi:Tryz.prog.info? 45 with
 | none=>rw [hi] at hi0;cases hi0
 | some i0 =>
 rw [hi] at hi0;simp only [Option.map_some,Option.some.injEq,Prod.mk.injEq] at hi0;obtain ⟨hz0,hz1,hz2⟩:=hi0
 go_enter Tryz.func19,Tryz.ntmps19
 go_upto_region 2 with (at_make;refine wpList_make_row rfl (.const (.int .i64 0)) (.tmp 7) 73 rfl 45 i0 (.pointer none) Tryz.underlying73 hi hz0 hz1 rfl _ _ 0 0 0 0 rfl rfl rfl rfl (by omega) (by omega) (by omega) ?_;intro w3 HG3 hg3 hs3)
 have own3:w3.ownsRow w.heap.size 45 1 (.slice (some ⟨w.heap.size,0,none⟩) 0 0) 0 []:=own_made (cs:=[]) (z:=.pointer none) rfl (by omega) (by omega) (by simpa [splice] using HG3) (Nat.le_refl _)
 have b3:Below w.heap.size w w3:=grown_below hg3;clear HG3;go_upto_region 3 with (at_range;refine wpList_rng0 rfl (.tmp 9) 57 rfl 3 45 Tryz.underlying57 rfl ?_)
 have b4:Below w.heap.size w (w3.alloc (.mapIter none 0 #[] 0)):=b3.alloc b3.size _;have own4:=own_below own3 ((Below.refl w3.heap.size w3).alloc (Nat.le_refl _) (.mapIter none 0 #[] 0)) (Nat.le_refl _);have hit:=heap_alloc_new w3 (.mapIter none 0 #[] 0);obtain ⟨rb,hrb⟩:∃ rb,w3.heap.size=rb:=⟨_,rfl⟩;rw [hrb] at hit;rw [hrb];have HIT:=Lib.hid hit;have HO4:=Lib.hid own4;have HB4:=Lib.hid b4;clear own3 b3 hg3 hs3 hit own4 b4 hrb;generalize w3.alloc (.mapIter none 0 #[] 0)=w5 at HIT HO4 HB4 ⊢;obtain ⟨Hg,hHg⟩:∃ Hg,w.heap.size=Hg:=⟨_,rfl⟩;have HHG:=Lib.hid hHg;rw [hHg] at HO4;rw [hHg];clear hHg
 go_frame
 go_loopg [3] 0 (fun gk v3 wr=>v3=.slice (some ⟨Hg,0,none⟩) 0 0∧wr=w5)
 case atStart=>exact ⟨rfl,rfl⟩
 case round =>
  obtain ⟨rfl,rfl⟩:=hrel;go_wp2_with (at_next;refine wpList_nxt0 rfl (.tmp 10) rfl rb rfl HIT.out ?_)
  have ks:=k_sort (A:=fun _=>false) (bx:=fun _=>0) (n:=0) (R:=[]) [] rfl (by decide) HO4.out (fun i q=>nomatch q) (fun i q=>nomatch q) List.Pairwise.nil (fun i=>by simp) (fun i q=>nomatch q) (by simp) (fun z _=>by simp)
  go_wp2_with fail
  with_reducible refine ks.mono ?_
  rintro e w6 ⟨rfl,own6,g6,hlen⟩;have b6:Below w.heap.size w w6:=HB4.out.trans ⟨g6.os,g6.tape,g6.output,g6.size,fun j hj=>g6.block j (by have:=HB4.out.size;omega) (by have:=HHG.out;simp;omega)⟩
  clear ks own6 g6 hlen;go_wp2_with fail
  go_ret
  exact ⟨Hg,0,rfl,by have:=HHG.out;omega,b6⟩
theorem c_Boxes0 {w:World} {c:Nat} (h:Raw w c):Calls Tryz.prog 9 #[ptr c] w fun e w'=>∃ g cap,e=.returned (.slice (some ⟨g,0,none⟩) 0 cap)∧Row brow 8 43 w' g 0 cap St.zero.box∧w.heap.size≤g∧Below w.heap.size w w':=by
 have hc7:w.cell? ⟨c,7,none⟩=some (.map none):=cellL h 7 _ rfl
 obtain ⟨iB,hiB⟩:∃ i,Tryz.prog.info? 43=some i:=by
  cases q:Tryz.prog.info? 43 with
  | none=>have:=infoBx;rw [q] at this;cases this
  | some i=>exact ⟨i,rfl⟩
 have hib:=infoBx;rw [hiB] at hib;simp only [Option.map_some,Option.some.injEq,Prod.mk.injEq] at hib;obtain ⟨hi2,hi3,hi4⟩:=hib;have HBY:=Lib.hid (show iB.bytes*0≤281474976710656 by omega)
 have HMN:=Lib.hid (show (0:Nat)≤140737488355328 by omega)
 clear h
 go_enter Tryz.func9,Tryz.ntmps9
 go_upto_region 2 with (at_make;refine wpList_make_many (ic:=brow) rfl (.const (.int .i64 0)) (.tmp 10) 39 rfl 43 iB (.agg #[.int .i64 0,.int .i64 0,.int .i64 0,.int .i64 0,.int .i64 0,.bool false,.bool false,.int .i64 0]) 8 Tryz.underlying39 hiB hi2 hi3 .i64 .i64 0 0 0 St.zero.box rfl rfl rfl rfl HBY.out HMN.out ?_;intro w3 HG3 hg3 hs3)
 have hc73:w3.cell? ⟨c,7,none⟩=some (.map none):=(Only.grownN (S:=fun _=>False) hg3).cell (fun q=>q) hc7;have b3:=grown_below hg3;clear hc7;go_wp2_with fail
 with_reducible refine (c_rising0 w3).mono ?_
 rintro e w4 ⟨gs,cp,rfl,hgs,b4⟩;have HR4:=Lib.hid (Row.kept HG3.out (Only.of_below (S:=fun _=>False) b4) (fun q=>q));have HB4:=Lib.hid (b3.trans (b4.mono b3.size));obtain ⟨Hm,hHm⟩:∃ Hm,w.heap.size=Hm:=⟨_,rfl⟩;have HHH:=Lib.hid hHm;rw [hHm] at HR4
 try rw [hHm]
 clear hHm hc73 hg3 hs3 HG3 b3 b4 hgs;go_wp2_with fail
 go_loopg [3,18] 0 (fun gk v3 v18 wr=>v3=.slice (some ⟨Hm,0,none⟩) 0 0∧v18=.int .i64 0∧wr=w4)
 case atStart=>exact ⟨rfl,rfl,rfl⟩
 case round =>
  obtain ⟨rfl,rfl,rfl⟩:=hrel;go_wp2_with fail
  go_ret
  exact ⟨Hm,0,rfl,HR4.out,by have:=HHH.out;omega,HB4.out⟩
theorem c_Boxes {w:World} {own:Nat→Option Tag} {c:Nat} {s:St} (h:Wk w own c s) {K:Nat} (hI:Inv K 0 s):Calls Tryz.prog 9 #[ptr c] w fun e w'=>∃ g cap,e=.returned (.slice (some ⟨g,0,none⟩) (ups s.mx s.last).length cap)∧Row brow 8 43 w' g (ups s.mx s.last).length cap s.box∧w.heap.size≤g∧Below w.heap.size w w':=by
 obtain ⟨an,⟨y,rfl,_,h1⟩ | ⟨h1,rfl,_,_⟩,_⟩:=h
 ·exact c_BoxesC h1 hI
 ·exact c_Boxes0 h1
end Go.Proofs.YthdengocipfgiaaGreat.W.C
namespace Go.Proofs.YthdengocipfgiaaGreat.W.C
open Go.RowKit Go.Proofs.YthdengocipfgiaaGreat.W
attribute [local go_sem] Oper.semAt_some
theorem l_mild (w:World) (k n l z r a m c v p:Int):Calls Tryz.prog 7 #[.agg #[.int .i64 k,.int .i64 n,.int .i64 l,.int .i64 z,.int .i64 r,.int .i64 a,.int .i64 m,.int .i64 c,.int .i64 v,.int .i64 p]] w fun e w'=>e=.returned (.bool (decide (p≤40)))∧Below w.heap.size w w':=by
 have hrow:=heap_alloc_new w (.cells #[.int .i64 k,.int .i64 n,.int .i64 l,.int .i64 z,.int .i64 r,.int .i64 a,.int .i64 m,.int .i64 c,.int .i64 v,.int .i64 p] 29);have y9:=(ev_cells hrow).2.2.2.2.2.2.2.2.2
 go_enter Tryz.func7,Tryz.ntmps7
 go_wp2_with fail
 go_ret
 exact ⟨rfl,(Below.refl _ _).alloc (Nat.le_refl _) _⟩
theorem cmd_cells {w:World} {g n cap:Nat} {T:Nat→Cmd} (h:Row cmdC 4 49 w g n cap T) {k:Nat} (hk:k<n):w.cell? ⟨g,k*4,none⟩=some (.bool (T k).1)∧w.cell? ⟨g,k*4+1,none⟩=some (.int .i64 (T k).2.1)∧w.cell? ⟨g,k*4+2,none⟩=some (.int .i64 (T k).2.2.1)∧w.cell? ⟨g,k*4+3,none⟩=some (.int .i64 (T k).2.2.2) :=
 ⟨h.cell hk (c:=0) rfl rfl,h.cell hk (c:=1) rfl rfl,h.cell hk (c:=2) rfl rfl,h.cell hk (c:=3) rfl rfl⟩
end Go.Proofs.YthdengocipfgiaaGreat.W.C
