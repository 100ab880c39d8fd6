import Derived.Test.YthdengocipfgiaaGreatCaK
import Derived.Deep.CutBlock
/- A part of what core's laws stand on. -/
set_option linter.unusedVariables false
set_option linter.unusedSimpArgs false
set_option maxRecDepth 100000
set_option maxHeartbeats 1600000
namespace Go.Proofs.YthdengocipfgiaaGreat.W.HT
open Go.RowKit
theorem infoIt:(Tryz.prog.info? 139).map (fun i=>(i.zero,i.size,i.bytes))=some (some (.agg #[.int .i64 0,.int .i64 0,.int .i64 0,.int .i64 0,.int .i64 0]),5,40):=by kernel_rfl
theorem sizeMp:(Tryz.prog.info? 135).map (·.size)=some 1:=by kernel_rfl
theorem sizeSl:(Tryz.prog.info? 134).map (·.size)=some 1:=by kernel_rfl
theorem info3 {P:Program} {t:TypeId} {z:Value} {s b:Nat} (h:(P.info? t).map (fun i=>(i.zero,i.size,i.bytes))=some (some z,s,b)):∃ i,P.info? t=some i∧i.zero=some z∧i.size=s∧i.bytes=b:=by
 cases hq:P.info? t with
 | none=>simp [hq] at h
 | some i=>simp [hq] at h;exact ⟨i,rfl,h.1,h.2.1,h.2.2⟩
theorem settled_ob {w w':World} {r:Nat} {Fv:Value} {g cap b n:Nat} {T:Nat→K×V} {M:K→Option Nat} {A:K→Option V} {X:Nat→Prop} (h:St w' r Fv g cap b n T M n) (f:Full lt ok n T M A) (hr:X r) (hX:∀ j,X j→j<w.heap.size) (hs:w.heap.size≤w'.heap.size)
  (hg:X g∨w.heap.size≤g) (hb:X b∨w.heap.size≤b):∃ X':Nat→Prop,Ob w' r Fv n A X'∧∀ j,X' j→X j∨w.heap.size≤j:=by
 refine ⟨fun j=>X j∨j=g∨j=b,⟨some g,some b,_,T,M,⟨h.blk,Or.inr ⟨g,cap,rfl,rfl,h.row⟩,Or.inr ⟨b,rfl,h.mp⟩,f,h.keys,fun g' q=>by cases q;exact h.rg,fun b' q=>by cases q;exact h.rb,fun g' b' q q'=>by cases q;cases q';exact h.gb⟩,Or.inl hr,fun g' q=>by cases q;exact Or.inr (Or.inl rfl),fun b' q=>by cases q;exact Or.inr (Or.inr rfl),?_⟩,?_⟩
 ·rintro j (q | q | q)
  ·exact Nat.lt_of_lt_of_le (hX j q) hs
  ·rw [q];exact h.row.lt
  ·rw [q];exact h.mp.lt
 ·rintro j (q | q | q)
  ·exact Or.inl q
  ·rw [q];exact hg
  ·rw [q];exact hb
theorem set_any {r:Nat} {Fv:Value} {S:Nat→Prop} {C:Nat→World→Prop} (L:Less r Fv S C) (n:Nat) (A:K→Option V) (X:Nat→Prop) (k:K) (v:V) (w:World) (h:Ob w r Fv n A X) (hk:kw k) (hv:ok v) (hn:n<1073741823)
  (m:Nat) (hm:m<2305843009213693952) (hC:C m w) (hS:∀ j,S j→¬ X j) (hSw:∀ j,S j→j<w.heap.size) (n':Nat) (hn':n'=if (A k).isSome then n else n+1) :
  Calls Tryz.prog 176 #[.pointer (some ⟨r,0,none⟩),kv k,(.agg #[.int .i64 v.1,.int .i64 v.2.1,.int .i64 v.2.2])] w fun e w'=>e=.returned (.tuple #[])∧∃ (X':Nat→Prop) (a:Nat),Ob w' r Fv n' (updZ A k (some v)) X'∧(∀ j,X' j→X j∨w.heap.size≤j)∧a≤90∧C (m+a) w'∧Only w w' (fun j=>X j∨S j):=by
 obtain ⟨G,B,sv,T,M,h,h1,h2,h3,h4⟩:=h;have hml:(1073741824:Nat)<maxLen:=by decide
 have hmk:∀ (w:World) (r:Option Nat),(binOp .eql 135 (.map r) (.map none)).run Tryz.prog w=.ok (.bool r.isNone) w:=fun w r=>run_eql_map_nil w _ _ _ r Tryz.underlying135;have hmm:=@run_makeMap Tryz.prog;obtain ⟨A1,cap1,hsl,hcap1,hcap2⟩:=h.its.slice;obtain ⟨iT,hi1,hi2,hi3,hi4⟩:=info3 infoIt;have HN':=Lib.hid hn';clear hn';have hrlt:=h4 r h1;have hkn:=updZ_twice A k none (some v);have HKN:=Lib.hid hkn;clear hkn
 go_enter Tryz.func176,Tryz.ntmps176
 go_upto_region 1 with (fail)
 have hO0:Only w ((w.alloc (.cells #[.int .i64 k.1,.int .i64 k.2] 77)).alloc (.cells #[.int .i64 v.1,.int .i64 v.2.1,.int .i64 v.2.2] 107)) (fun _=>False):=((Only.refl w _).alloc _).alloc _;have HBX:Hid (((w.alloc (.cells #[.int .i64 k.1,.int .i64 k.2] 77)).alloc (.cells #[.int .i64 v.1,.int .i64 v.2.1,.int .i64 v.2.2] 107)).heap[w.heap.size+1]?=some (.cells #[.int .i64 v.1,.int .i64 v.2.1,.int .i64 v.2.2] 107)):=Lib.hid (by have:=heap_alloc_new (w.alloc (.cells #[.int .i64 k.1,.int .i64 k.2] 77)) (.cells #[.int .i64 v.1,.int .i64 v.2.1,.int .i64 v.2.2] 107);rwa [World.size_alloc] at this)
 have HBK:Hid (((w.alloc (.cells #[.int .i64 k.1,.int .i64 k.2] 77)).alloc (.cells #[.int .i64 v.1,.int .i64 v.2.1,.int .i64 v.2.2] 107)).heap[w.heap.size]?=some (.cells #[.int .i64 k.1,.int .i64 k.2] 77)):=Lib.hid ((Only.alloc (Only.refl (w.alloc (.cells #[.int .i64 k.1,.int .i64 k.2] 77)) (fun _=>False)) _).blk (fun q=>q) (heap_alloc_new w _));generalize (w.alloc (.cells #[.int .i64 k.1,.int .i64 k.2] 77)).alloc (.cells #[.int .i64 v.1,.int .i64 v.2.1,.int .i64 v.2.2] 107)=w0 at hO0 HBX HBK ⊢;have hOX:Only w w0 (fun j=>X j∨S j):=hO0.mono (fun _ q=>q.elim);have hC0:=L.keep w w0 m (fun _=>False) hC hO0 (fun _ _ q=>q);have hS0:∀ j,S j→j<w0.heap.size:=fun j q=>Nat.lt_of_lt_of_le (hSw j q) hO0.size;have HBLK:=Lib.hid (hO0.blk (fun q=>q) h.blk);have its0:=h.its.kept hO0 (fun _ _ q=>q);have mp0:=h.mp.kept hO0 (fun _ _ q=>q);have hfull:=h.full;have hkeys:=h.keys;have hrg:=h.rg;have hrb:=h.rb;have hgb:=h.gb;have hGlt:=h.its.lt;clear h
 cases hM:M k with
 | some i =>
  obtain ⟨hin,hA,hkey⟩:=hfull.get hM;obtain ⟨g,cap,hG,rfl,hrow⟩:=its0.some_ (by omega)
  obtain ⟨b,hB,hmp⟩:∃ b,B=some b∧Mp Tryz.prog 77 w0 b (fun k=>(M k).map (fun j:Nat=>Value.int .i64 (j:Int))) n:=by
   rcases mp0 with ⟨_,_,q⟩ | q
   ·rw [q k] at hM;cases hM
   ·exact q
  subst hB hG;have hst:St w0 r Fv g cap b n T M n:=⟨HBLK.out,hrow,hmp,hrg g rfl,hrb b rfl,hgb g b rfl rfl,hkeys⟩;obtain ⟨hho,hpl⟩:=hfull.free odr hM;have hSd:∀ j,S j→j≠r∧j≠g∧j≠b:=fun j q=>⟨fun e=>hS j q (by rw [e];exact h1),fun e=>hS j q (by rw [e];exact h2 g rfl),fun e=>hS j q (by rw [e];exact h3 b rfl)⟩
  have hnn:n'=n:=by rw [HN'.out,hA];rfl
  subst hnn;have HM:=Lib.hid hM;have c2:=hst.c2;have y0:=cell_of_row _ _ 0 _ _ _ HBK.out;have y1:=cell_of_row _ _ 1 _ _ _ HBK.out;have hrun:∀ x,(Instr.lookup 135 (.map (some b)) (.agg #[.int .i64 k.1,.int .i64 k.2]) true).run Tryz.prog (w0.drewN x)=.ok (.tuple #[.int .i64 (i:Int),.bool true]) (w0.drewN x):=fun x=>by rw [(hmp.kept ((Only.refl w0 (fun _=>False)).drewN x) (fun q=>q)).run_ok kd Tryz.underlying135 (zeroI _) hk];simp [HM.out]
  have hrun1:(Instr.lookup 135 (.map (some b)) (.agg #[.int .i64 k.1,.int .i64 k.2]) true).run Tryz.prog w0.drew=.ok (.tuple #[.int .i64 (i:Int),.bool true]) w0.drew:=hrun 1;clear hM hA hsl;go_upto_region 3 with (fail)
  go_quiet (fail)
  have hOd:Only w0 (w0.drewN nq) (fun _=>False):=(Only.refl w0 _).drewN nq;have hst1:=hst.kept hOd (fun q=>q) (fun q=>q) (fun q=>q);have hCd:=L.keep w0 _ m (fun _=>False) hC0 hOd (fun _ _ q=>q);have HBX1:=Lib.hid (hOd.blk (fun q=>q) HBX.out);have HBK1:=Lib.hid (hOd.blk (fun q=>q) HBK.out);clear hrun hrun1 c2 y0 y1;generalize w0.drewN nq=w1 at hOd hst1 hCd HBX1 HBK1 ⊢;have hset:=settle_any L g cap b n' T M n' i k _ v w1 hst1 hho hpl hv hk (by omega) (by omega) m hm hCd hSd (fun j q=>Nat.lt_of_lt_of_le (hS0 j q) hOd.size) n' (by rw [HM.out];rfl)
  rw [HKN.out] at hset;have c1:=hst1.c1;have z0:=cell_of_row _ _ 0 _ _ _ HBX1.out;have z1:=cell_of_row _ _ 1 _ _ _ HBX1.out;have z2:=cell_of_row _ _ 2 _ _ _ HBX1.out;have y0:=cell_of_row _ _ 0 _ _ _ HBK1.out;have y1:=cell_of_row _ _ 1 _ _ _ HBK1.out;go_wp2_with fail
  refine hset.mono ?_;rintro e w' ⟨rfl,T',M',a,hst',hful',ha,hC',hO'⟩;clear hset;go_wp2_with fail
  go_end0
  have hO2:Only w w' (fun j=>X j∨S j):=(hOX.tr (hOd.mono (fun _ q=>q.elim))).tr (hO'.mono (fun j q=>by rcases q with q | q | q;exact Or.inl (by rw [q];exact h2 g rfl);exact Or.inl (by rw [q];exact h3 b rfl);exact Or.inr q))
  obtain ⟨X',hX1,hX2⟩:=settled_ob (w:=w) hst' hful' h1 h4 hO2.size (Or.inl (h2 g rfl)) (Or.inl (h3 b rfl));exact ⟨rfl,X',a,hX1,hX2,ha,hC',hO2⟩
 | none =>
  have hA:=hfull.isnone hM;have hnn:n'=n+1:=by rw [HN'.out,hA];rfl
  subst hnn;have HM:=Lib.hid hM
  have hAk:updZ A k none=A:=by
   funext j;unfold updZ;split
   ·rename_i e;rw [e,hA]
   ·rfl
  obtain ⟨hho,hpl⟩:=hfull.more (T':=upd T n ((0,0),(0,0,0))) hM (fun j hj=>upd_ne _ _ (by omega))
  have c1:=cell_of_row _ _ 1 _ _ _ HBLK.out;have c2:=cell_of_row _ _ 2 _ _ _ HBLK.out;clear hM hA hAk;have hnb:(n+1)*40≤140737488355328:=by omega
  have hnm:n+1≤maxLen:=by omega
  rcases mp0 with ⟨hB,hz,hMz⟩ | ⟨b,hB,hmp⟩
  ·
   subst hB;have HZ:=Lib.hid hz;have HMZ:=Lib.hid hMz;clear hz hMz;have hB0:=(Only.alloc (Only.refl w0 (fun _=>False)) (.map #[] 0)).blk (fun q=>q) HBLK.out
   go_upto_region 3 with (first
    | (with_reducible refine wpList_store_one rfl 135 (.tmp 16) (.tmp 14) rfl sizeMp r 2 rfl (.map (some w0.heap.size)) rfl (cells_map _) (one_map _) [Fv,sv,.map none] 137 hB0 (len3_2 _ _ _) ?_;intro w1 HB1 hg1;clear c1 c2))
   have hOa:Only w0 w1 (fun j=>j=r):=((Only.refl w0 _).alloc _).tr (Only.grown hg1 (Or.inl rfl))
   have hmp1:Mp Tryz.prog 77 w1 w0.heap.size (fun k=>(M k).map (fun j:Nat=>Value.int .i64 (j:Int))) n:=by
    have:=(Mp.made Tryz.prog 77 w0).kept (Only.grown hg1 (Or.inl rfl):Only _ w1 (fun j=>j=r)) (fun q=>by have:=lt_of_row HBLK.out;omega)
    rw [HZ.out];exact this.ext (fun x _=>by rw [HMZ.out x];rfl)
   have HBA:Hid (w1.heap[r]?=some (.cells #[Fv,sv,.map (some w0.heap.size)] 137 (0,0))):=HB1;have hrb1:r≠w0.heap.size:=by have:=lt_of_row HBLK.out;omega
   have hgb1:∀ g,G=some g→g≠w0.heap.size:=fun g q=>by have:=its0.lt g q;omega
   have hbX:X w0.heap.size∨w.heap.size≤w0.heap.size:=Or.inr hO0.size;have hOW:Only w w1 (fun j=>X j∨S j):=hOX.trans hOa (fun j q=>Or.inl (Or.inl (by rw [q];exact h1)))
   have itsA:=its0.kept hOa (fun g q=>fun e=>hrg g q e.symm);have HBX1:=hOa.blk (fun q=>by omega) HBX.out
   have hCA:=L.keep w0 w1 m _ hC0 hOa (fun j q e=>hS j q (by rw [e];exact h1))
   have HBK1:=hOa.blk (fun q=>by omega) HBK.out
   have c2:=cell_of_row _ _ 2 _ _ _ HBA.out;have y0:=cell_of_row _ _ 0 _ _ _ HBK1;have y1:=cell_of_row _ _ 1 _ _ _ HBK1;have hrun:∀ x,(Instr.lookup 135 (.map (some w0.heap.size)) (.agg #[.int .i64 k.1,.int .i64 k.2]) true).run Tryz.prog (w1.drewN x)=.ok (.tuple #[.int .i64 0,.bool false]) (w1.drewN x):=fun x=>by rw [(hmp1.kept ((Only.refl w1 (fun _=>False)).drewN x) (fun q=>q)).run_ok kd Tryz.underlying135 (zeroI _) hk];simp [HM.out]
   have hrun1:(Instr.lookup 135 (.map (some w0.heap.size)) (.agg #[.int .i64 k.1,.int .i64 k.2]) true).run Tryz.prog w1.drew=.ok (.tuple #[.int .i64 0,.bool false]) w1.drew:=hrun 1;go_upto_region 3 with (fail)
   go_quiet (fail)
   have hOd:Only w1 (w1.drewN nq) (fun _=>False):=(Only.refl w1 _).drewN nq;have hmp1:=hmp1.kept hOd (fun q=>q);have HBA:=Lib.hid (hOd.blk (fun q=>q) HBA.out);have itsA:=itsA.kept hOd (fun _ _ q=>q);have hOW:=hOW.tr (hOd.mono (fun _ q=>q.elim));have HBX1:=hOd.blk (fun q=>q) HBX1;have HBK1:=hOd.blk (fun q=>q) HBK1;have hCA:=L.keep w1 _ m (fun _=>False) hCA hOd (fun _ _ q=>q);clear hrun hrun1 c2 y0 y1;generalize w1.drewN nq=wq at hOd hmp1 HBA itsA hOW HBX1 HBK1 hCA ⊢;have c1:=cell_of_row _ _ 1 _ _ _ HBA.out;rw [hsl] at c1;go_upto_region 6 with (fail)
   have hOb:Only wq (wq.alloc (.cells #[.int .i64 0,.int .i64 0,.int .i64 0,.int .i64 0,.int .i64 0] 139)) (fun _=>False):=(Only.refl wq _).alloc _;have itsB:=itsA.kept hOb (fun _ _ q=>q);have hrB:=range_new wq [.int .i64 0,.int .i64 0,.int .i64 0,.int .i64 0,.int .i64 0] 139;have HBB:=Lib.hid (hOb.blk (fun q=>q) HBA.out)
   go_upto_region 7 with (first
    | (at_builtin;refine wpList_item_app enc rfl (.tmp 37) (.tmp 39) 134 rfl iT (.agg #[.int .i64 0,.int .i64 0,.int .i64 0,.int .i64 0,.int .i64 0]) 40 Tryz.underlying134 hi1 hi2 hi3 hi4 rfl sv G n T hsl.symm itsB ((0,0),(0,0,0)) wq.heap.size rfl hrB hnm hnb ?_;intro g cap w2 hrow2 hO2 hg2;have HBC:=Lib.hid ((hO2 (fun j=>G=some j) (fun _ q=>q)).blk (fun q=>hrg r q rfl) HBB.out);clear c1)
    | (with_reducible refine wpList_store_one rfl 134 (.tmp 42) (.tmp 40) rfl sizeSl r 1 rfl (.slice (some ⟨g,0,none⟩) (n+1) cap) rfl (cells_slice _ _ _) (one_slice _ _ _) [Fv,sv,.map (some w0.heap.size)] 137 HBC.out (len3_1 _ _ _) ?_;intro w3 HB3 hg3))
   have hOn:=hO2 (fun j=>G=some j) (fun _ q=>q);have hOr:Only w2 w3 (fun j=>j=r):=Only.grown hg3 (Or.inl rfl);have hWs:=hOb.size
   have hgr:r≠g:=by
    rcases hg2 with q | q
    ·exact hrg g q
    ·have:=lt_of_row HBA.out;omega
   have hgb3:g≠w0.heap.size:=by
    rcases hg2 with q | q
    ·exact hgb1 g q
    ·have:=hmp1.lt;omega
   have hmp3:=((hmp1.kept hOb (fun q=>q)).kept hOn (fun q=>hgb1 _ q rfl)).kept hOr (fun q=>hrb1 q.symm);have hall:Only wq w3 (fun j=>j=r∨G=some j):=((hOb.mono (fun _ q=>q.elim)).tr (hOn.mono (fun _ q=>Or.inr q))).tr (hOr.mono (fun _ q=>Or.inl q))
   have hst:St w3 r Fv g cap w0.heap.size (n+1) (upd T n ((0,0),(0,0,0))) M n:=by
    refine ⟨HB3.out,hrow2.kept hOr (fun q=>hgr q.symm),hmp3,hgr,hrb1,hgb3,fun j hj=>?_⟩
    by_cases e:j=n
    ·subst e;rw [upd_same];exact kw0
    ·rw [upd_ne _ _ e];exact hkeys j (by omega)
   have hC3:=L.keep wq w3 m _ hCA hall (fun j q e=>by rcases e with e | e;exact hS j q (by rw [e];exact h1);exact hS j q (h2 j e))
   have hSd:∀ j,S j→j≠r∧j≠g∧j≠w0.heap.size:=by
    intro j q;refine ⟨fun e=>hS j q (by rw [e];exact h1),fun e=>?_,fun e=>?_⟩
    ·rcases hg2 with q' | q'
     ·exact hS j q (by rw [e];exact h2 g q')
     ·have:=hSw j q;have:=hOW.size;omega
    ·rcases hbX with q' | q'
     ·exact hS j q (by rw [e];exact q')
     ·have:=hSw j q;omega
   have hset:=settle_any L g cap w0.heap.size (n+1) _ M n n k _ v w3 hst hho hpl hv hk (by omega) (by omega) m hm hC3 hSd (fun j q=>by have:=hSw j q;have:=hOW.size;have:=hall.size;omega) (n+1) (by rw [HM.out];rfl)
   rw [HKN.out] at hset;have HBX3:=hall.blk (fun q=>by rcases q with q | q;omega;have:=hGlt _ q;omega) HBX1
   have HBK3:=hall.blk (fun q=>by rcases q with q | q;omega;have:=hGlt _ q;omega) HBK1
   have y0:=cell_of_row _ _ 0 _ _ _ HBK3;have y1:=cell_of_row _ _ 1 _ _ _ HBK3;have z0:=cell_of_row _ _ 0 _ _ _ HBX3;have z1:=cell_of_row _ _ 1 _ _ _ HBX3;have z2:=cell_of_row _ _ 2 _ _ _ HBX3;go_wp2_with fail
   refine hset.mono ?_;rintro e w' ⟨rfl,T',M',a,hst',hful',ha,hC',hO'⟩;clear hset;go_wp2_with fail
   go_end0
   have hgX:X g∨w.heap.size≤g:=by
    rcases hg2 with q | q
    ·exact Or.inl (h2 g q)
    ·right;have:=hOW.size;omega
   have hO3:Only w w' (fun j=>X j∨S j):=(hOW.trans hall (fun j q=>by rcases q with q | q;exact Or.inl (Or.inl (by rw [q];exact h1));exact Or.inl (Or.inl (h2 j q)))).trans hO' (fun j q=>by
    rcases q with q | q | q
    ·rw [q];exact hgX.imp Or.inl id
    ·rw [q];exact hbX.imp Or.inl id
    ·exact Or.inl (Or.inr q))
   obtain ⟨X',hX1,hX2⟩:=settled_ob (w:=w) hst' hful' h1 h4 hO3.size hgX hbX;exact ⟨rfl,X',a,hX1,hX2,ha,hC',hO3⟩
  ·subst hB
   have HBA:=HBLK;have hrb1:=hrb b rfl;have hgb1:=fun g q=>hgb g b q rfl;have hbX:X b∨w.heap.size≤b:=Or.inl (h3 b rfl);have hOW:Only w w0 (fun j=>X j∨S j):=hOX;have itsA:=its0.kept (Only.refl w0 (fun _=>False)) (fun g q=>fun q=>q);have HBX1:=HBX.out;have hCA:=hC0;have HBK1:=HBK.out;have c2:=cell_of_row _ _ 2 _ _ _ HBA.out;have y0:=cell_of_row _ _ 0 _ _ _ HBK1;have y1:=cell_of_row _ _ 1 _ _ _ HBK1;have hrun:∀ x,(Instr.lookup 135 (.map (some b)) (.agg #[.int .i64 k.1,.int .i64 k.2]) true).run Tryz.prog (w0.drewN x)=.ok (.tuple #[.int .i64 0,.bool false]) (w0.drewN x):=fun x=>by rw [(hmp.kept ((Only.refl w0 (fun _=>False)).drewN x) (fun q=>q)).run_ok kd Tryz.underlying135 (zeroI _) hk];simp [HM.out]
   have hrun1:(Instr.lookup 135 (.map (some b)) (.agg #[.int .i64 k.1,.int .i64 k.2]) true).run Tryz.prog w0.drew=.ok (.tuple #[.int .i64 0,.bool false]) w0.drew:=hrun 1;go_upto_region 3 with (fail)
   go_quiet (fail)
   have hOd:Only w0 (w0.drewN nq) (fun _=>False):=(Only.refl w0 _).drewN nq;have hmp:=hmp.kept hOd (fun q=>q);have HBA:=Lib.hid (hOd.blk (fun q=>q) HBA.out);have itsA:=itsA.kept hOd (fun _ _ q=>q);have hOW:=hOW.tr (hOd.mono (fun _ q=>q.elim));have HBX1:=hOd.blk (fun q=>q) HBX1;have HBK1:=hOd.blk (fun q=>q) HBK1;have hCA:=L.keep w0 _ m (fun _=>False) hCA hOd (fun _ _ q=>q);clear hrun hrun1 c2 y0 y1;generalize w0.drewN nq=wq at hOd hmp HBA itsA hOW HBX1 HBK1 hCA ⊢;have c1:=cell_of_row _ _ 1 _ _ _ HBA.out;rw [hsl] at c1;go_upto_region 6 with (fail)
   have hOb:Only wq (wq.alloc (.cells #[.int .i64 0,.int .i64 0,.int .i64 0,.int .i64 0,.int .i64 0] 139)) (fun _=>False):=(Only.refl wq _).alloc _;have itsB:=itsA.kept hOb (fun _ _ q=>q);have hrB:=range_new wq [.int .i64 0,.int .i64 0,.int .i64 0,.int .i64 0,.int .i64 0] 139;have HBB:=Lib.hid (hOb.blk (fun q=>q) HBA.out)
   go_upto_region 7 with (first
    | (at_builtin;refine wpList_item_app enc rfl (.tmp 37) (.tmp 39) 134 rfl iT (.agg #[.int .i64 0,.int .i64 0,.int .i64 0,.int .i64 0,.int .i64 0]) 40 Tryz.underlying134 hi1 hi2 hi3 hi4 rfl sv G n T hsl.symm itsB ((0,0),(0,0,0)) wq.heap.size rfl hrB hnm hnb ?_;intro g cap w2 hrow2 hO2 hg2;have HBC:=Lib.hid ((hO2 (fun j=>G=some j) (fun _ q=>q)).blk (fun q=>hrg r q rfl) HBB.out);clear c1)
    | (with_reducible refine wpList_store_one rfl 134 (.tmp 42) (.tmp 40) rfl sizeSl r 1 rfl (.slice (some ⟨g,0,none⟩) (n+1) cap) rfl (cells_slice _ _ _) (one_slice _ _ _) [Fv,sv,.map (some b)] 137 HBC.out (len3_1 _ _ _) ?_;intro w3 HB3 hg3))
   have hOn:=hO2 (fun j=>G=some j) (fun _ q=>q);have hOr:Only w2 w3 (fun j=>j=r):=Only.grown hg3 (Or.inl rfl);have hWs:=hOb.size
   have hgr:r≠g:=by
    rcases hg2 with q | q
    ·exact hrg g q
    ·have:=lt_of_row HBA.out;omega
   have hgb3:g≠b:=by
    rcases hg2 with q | q
    ·exact hgb1 g q
    ·have:=hmp.lt;omega
   have hmp3:=((hmp.kept hOb (fun q=>q)).kept hOn (fun q=>hgb1 _ q rfl)).kept hOr (fun q=>hrb1 q.symm);have hall:Only wq w3 (fun j=>j=r∨G=some j):=((hOb.mono (fun _ q=>q.elim)).tr (hOn.mono (fun _ q=>Or.inr q))).tr (hOr.mono (fun _ q=>Or.inl q))
   have hst:St w3 r Fv g cap b (n+1) (upd T n ((0,0),(0,0,0))) M n:=by
    refine ⟨HB3.out,hrow2.kept hOr (fun q=>hgr q.symm),hmp3,hgr,hrb1,hgb3,fun j hj=>?_⟩
    by_cases e:j=n
    ·subst e;rw [upd_same];exact kw0
    ·rw [upd_ne _ _ e];exact hkeys j (by omega)
   have hC3:=L.keep wq w3 m _ hCA hall (fun j q e=>by rcases e with e | e;exact hS j q (by rw [e];exact h1);exact hS j q (h2 j e))
   have hSd:∀ j,S j→j≠r∧j≠g∧j≠b:=by
    intro j q;refine ⟨fun e=>hS j q (by rw [e];exact h1),fun e=>?_,fun e=>?_⟩
    ·rcases hg2 with q' | q'
     ·exact hS j q (by rw [e];exact h2 g q')
     ·have:=hSw j q;have:=hOW.size;omega
    ·rcases hbX with q' | q'
     ·exact hS j q (by rw [e];exact q')
     ·have:=hSw j q;omega
   have hset:=settle_any L g cap b (n+1) _ M n n k _ v w3 hst hho hpl hv hk (by omega) (by omega) m hm hC3 hSd (fun j q=>by have:=hSw j q;have:=hOW.size;have:=hall.size;omega) (n+1) (by rw [HM.out];rfl)
   rw [HKN.out] at hset;have HBX3:=hall.blk (fun q=>by rcases q with q | q;omega;have:=hGlt _ q;omega) HBX1
   have HBK3:=hall.blk (fun q=>by rcases q with q | q;omega;have:=hGlt _ q;omega) HBK1
   have y0:=cell_of_row _ _ 0 _ _ _ HBK3;have y1:=cell_of_row _ _ 1 _ _ _ HBK3;have z0:=cell_of_row _ _ 0 _ _ _ HBX3;have z1:=cell_of_row _ _ 1 _ _ _ HBX3;have z2:=cell_of_row _ _ 2 _ _ _ HBX3;go_wp2_with fail
   refine hset.mono ?_;rintro e w' ⟨rfl,T',M',a,hst',hful',ha,hC',hO'⟩;clear hset;go_wp2_with fail
   go_end0
   have hgX:X g∨w.heap.size≤g:=by
    rcases hg2 with q | q
    ·exact Or.inl (h2 g q)
    ·right;have:=hOW.size;omega
   have hO3:Only w w' (fun j=>X j∨S j):=(hOW.trans hall (fun j q=>by rcases q with q | q;exact Or.inl (Or.inl (by rw [q];exact h1));exact Or.inl (Or.inl (h2 j q)))).trans hO' (fun j q=>by
    rcases q with q | q | q
    ·rw [q];exact hgX.imp Or.inl id
    ·rw [q];exact hbX.imp Or.inl id
    ·exact Or.inl (Or.inr q))
   obtain ⟨X',hX1,hX2⟩:=settled_ob (w:=w) hst' hful' h1 h4 hO3.size hgX hbX;exact ⟨rfl,X',a,hX1,hX2,ha,hC',hO3⟩
theorem mapZn (M:K→Option Nat) (k:K):(fun k'=>(updZ M k none k').map (fun j:Nat=>Value.int .i64 (j:Int)))=updZ (fun k'=>(M k').map (fun j:Nat=>Value.int .i64 (j:Int))) k none:=by
 funext k';unfold updZ;split <;> rfl
theorem updZ_back (A:K→Option V) (k:K) (v:V) (h:A k=some v):updZ (updZ A k none) k (some v)=A:=by
 rw [updZ_twice];funext j;unfold updZ;split
 ·rename_i e;rw [e,h]
 ·rfl
theorem run_nil {P:Program} {w:World} {k e t:TypeId} (hk:Kd P k) (ht:P.underlying t=some (.map k e)) {z:Value} (hz:(zeroValue e).run P w=.ok z w) {n:K} (hw:kw n) :
  (Instr.lookup t (.map none) (kv n) true).run P w=.ok (.tuple #[z,.bool false]) w:=by
 simpa using Maps.look_nil (w:=w) true (hk.keyed) ht hz (hk.made n hw)
theorem drop_none {r:Nat} {Fv:Value} (n:Nat) (A:K→Option V) (X:Nat→Prop) (k:K) (w:World) (h:Ob w r Fv n A X) (hk:kw k) (hA:A k=none) :
  Calls Tryz.prog 109 #[.pointer (some ⟨r,0,none⟩),kv k] w fun e w'=>e=.returned (.bool false)∧Below w.heap.size w w':=by
 obtain ⟨G,B,sv,T,M,h,h1,h2,h3,h4⟩:=h
 have hM:M k=none:=by
  cases q:M k with
  | none=>rfl
  | some i=>rw [(h.full.get q).2.1] at hA;cases hA
 have HM:=Lib.hid hM;clear hM hA
 rcases h.mp with ⟨hB,_⟩ | ⟨b,hB,hmp⟩
 ·subst hB
  go_enter Tryz.func109,Tryz.ntmps109
  go_upto_region 1 with (fail)
  have hO0:Only w (w.alloc (.cells #[.int .i64 k.1,.int .i64 k.2] 77)) (fun _=>False):=(Only.refl w _).alloc _;have HBK:Hid ((w.alloc (.cells #[.int .i64 k.1,.int .i64 k.2] 77)).heap[w.heap.size]?=some (.cells #[.int .i64 k.1,.int .i64 k.2] 77)):=Lib.hid (heap_alloc_new w _);have hBL:=hO0.blk (fun q=>q) h.blk;generalize w.alloc (.cells #[.int .i64 k.1,.int .i64 k.2] 77)=w0 at hO0 HBK hBL ⊢;have c2:=cell_of_row _ _ 2 _ _ _ hBL;have y0:=cell_of_row _ _ 0 _ _ _ HBK.out;have y1:=cell_of_row _ _ 1 _ _ _ HBK.out;have hrun:∀ x,(Instr.lookup 135 (.map none) (.agg #[.int .i64 k.1,.int .i64 k.2]) true).run Tryz.prog (w0.drewN x)=.ok (.tuple #[.int .i64 0,.bool false]) (w0.drewN x):=fun x=>run_nil kd Tryz.underlying135 (zeroI _) hk;have hrun1:(Instr.lookup 135 (.map none) (.agg #[.int .i64 k.1,.int .i64 k.2]) true).run Tryz.prog w0.drew=.ok (.tuple #[.int .i64 0,.bool false]) w0.drew:=hrun 1
  go_quiet (fail)
  go_wp2_with fail
  go_ret
  exact ⟨rfl,(hO0.drewN nq).below (fun _ q=>q.elim) (Nat.le_refl _)⟩
 ·subst hB
  go_enter Tryz.func109,Tryz.ntmps109
  go_upto_region 1 with (fail)
  have hO0:Only w (w.alloc (.cells #[.int .i64 k.1,.int .i64 k.2] 77)) (fun _=>False):=(Only.refl w _).alloc _;have HBK:Hid ((w.alloc (.cells #[.int .i64 k.1,.int .i64 k.2] 77)).heap[w.heap.size]?=some (.cells #[.int .i64 k.1,.int .i64 k.2] 77)):=Lib.hid (heap_alloc_new w _);have hBL:=hO0.blk (fun q=>q) h.blk;have hmp:=hmp.kept hO0 (fun q=>q);generalize w.alloc (.cells #[.int .i64 k.1,.int .i64 k.2] 77)=w0 at hO0 HBK hBL hmp ⊢;have c2:=cell_of_row _ _ 2 _ _ _ hBL;have y0:=cell_of_row _ _ 0 _ _ _ HBK.out;have y1:=cell_of_row _ _ 1 _ _ _ HBK.out;have hrun:∀ x,(Instr.lookup 135 (.map (some b)) (.agg #[.int .i64 k.1,.int .i64 k.2]) true).run Tryz.prog (w0.drewN x)=.ok (.tuple #[.int .i64 0,.bool false]) (w0.drewN x):=fun x=>by rw [(hmp.kept ((Only.refl w0 (fun _=>False)).drewN x) (fun q=>q)).run_ok kd Tryz.underlying135 (zeroI _) hk];simp [HM.out]
  have hrun1:(Instr.lookup 135 (.map (some b)) (.agg #[.int .i64 k.1,.int .i64 k.2]) true).run Tryz.prog w0.drew=.ok (.tuple #[.int .i64 0,.bool false]) w0.drew:=hrun 1
  go_quiet (fail)
  go_wp2_with fail
  go_ret
  exact ⟨rfl,(hO0.drewN nq).below (fun _ q=>q.elim) (Nat.le_refl _)⟩
theorem drop_some {r:Nat} {Fv:Value} {S:Nat→Prop} {C:Nat→World→Prop} (L:Less r Fv S C) (n:Nat) (A:K→Option V) (X:Nat→Prop) (k:K) (v0:V) (w:World) (h:Ob w r Fv n A X) (hk:kw k) (hA:A k=some v0) (hn:n<1073741824)
  (m:Nat) (hm:m<2305843009213693952) (hC:C m w) (hS:∀ j,S j→¬ X j) (hSw:∀ j,S j→j<w.heap.size) (n1:Nat) (hn1:n=n1+1) :
  Calls Tryz.prog 109 #[.pointer (some ⟨r,0,none⟩),kv k] w fun e w'=>e=.returned (.bool true)∧∃ (X':Nat→Prop) (a:Nat),Ob w' r Fv n1 (updZ A k none) X'∧(∀ j,X' j→X j∨w.heap.size≤j)∧a≤90∧C (m+a) w'∧Only w w' (fun j=>X j∨S j):=by
 obtain ⟨G,B,sv,T,M,h,h1,h2,h3,h4⟩:=h;have hml:(1073741824:Nat)<maxLen:=by decide
 cases hM:M k with
 | none=>rw [h.full.isnone hM] at hA;cases hA
 | some i =>
  obtain ⟨hin,_,hkey⟩:=h.full.get hM;obtain ⟨g,cap,hG,rfl,hrow⟩:=h.its.some_ (by omega)
  obtain ⟨b,hB,hmp⟩:∃ b,B=some b∧Mp Tryz.prog 77 w b (fun k=>(M k).map (fun j:Nat=>Value.int .i64 (j:Int))) n:=by
   rcases h.mp with ⟨_,_,q⟩ | q
   ·rw [q k] at hM;cases hM
   ·exact q
  subst hB hG;have hrg:=h.rg g rfl;have hrb:=h.rb b rfl;have hgb:=h.gb g b rfl rfl;have HFU:=Lib.hid h.full;have hkeys:=h.keys;have hcap:=hrow.cap_;have hn1n:n1<n:=by omega
  have hsub:(n:Int)-1=(n1:Int):=by omega
  have hni:(n:Int)<1073741824:=by omega
  have hn0:(0:Int)<(n:Int):=by omega
  have hn1i:(n1:Int)<(n:Int):=by omega
  have hn1c:(n1:Int)≤(cap:Int):=by omega
  have hii:(i:Int)<(n:Int):=by omega
  have HN1:=Lib.hid hn1;have HM:=Lib.hid hM;have hBLK:=h.blk;clear h hn1 hM hA
  go_enter Tryz.func109,Tryz.ntmps109
  go_upto_region 1 with (fail)
  have hO0:Only w (w.alloc (.cells #[.int .i64 k.1,.int .i64 k.2] 77)) (fun _=>False):=(Only.refl w _).alloc _;have HBK:Hid ((w.alloc (.cells #[.int .i64 k.1,.int .i64 k.2] 77)).heap[w.heap.size]?=some (.cells #[.int .i64 k.1,.int .i64 k.2] 77)):=Lib.hid (heap_alloc_new w _);generalize w.alloc (.cells #[.int .i64 k.1,.int .i64 k.2] 77)=w0 at hO0 HBK ⊢;have hBL:=hO0.blk (fun q=>q) hBLK;have hmp0:=hmp.kept hO0 (fun q=>q);have c2:=cell_of_row _ _ 2 _ _ _ hBL;have y0:=cell_of_row _ _ 0 _ _ _ HBK.out;have y1:=cell_of_row _ _ 1 _ _ _ HBK.out;have hrun:∀ x,(Instr.lookup 135 (.map (some b)) (.agg #[.int .i64 k.1,.int .i64 k.2]) true).run Tryz.prog (w0.drewN x)=.ok (.tuple #[.int .i64 (i:Int),.bool true]) (w0.drewN x):=fun x=>by rw [(hmp0.kept ((Only.refl w0 (fun _=>False)).drewN x) (fun q=>q)).run_ok kd Tryz.underlying135 (zeroI _) hk];simp [HM.out]
  have hrun1:(Instr.lookup 135 (.map (some b)) (.agg #[.int .i64 k.1,.int .i64 k.2]) true).run Tryz.prog w0.drew=.ok (.tuple #[.int .i64 (i:Int),.bool true]) w0.drew:=hrun 1
  go_quiet (fail)
  have hOd:=hO0.drewN nq;have hmpd:=hmp0.kept ((Only.refl w0 (fun _=>False)).drewN nq) (fun q=>q);have hBd:=((Only.refl w0 (fun _=>False)).drewN nq).blk (fun q=>q) hBL;have HBKd:=Lib.hid (((Only.refl w0 (fun _=>False)).drewN nq).blk (fun q=>q) HBK.out);clear hrun hrun1 c2 y0 y1;generalize w0.drewN nq=wd at hOd hmpd hBd HBKd ⊢;have c2:=cell_of_row _ _ 2 _ _ _ hBd;have y0:=cell_of_row _ _ 0 _ _ _ HBKd.out;have y1:=cell_of_row _ _ 1 _ _ _ HBKd.out;go_upto_region 4 with (fail)
  go_still_tail 5,(by kernel_rfl)
  change wpList _ _ _ _ _ wd.drew;have hOe:Only w wd.drew (fun _=>False):=hOd.drewN 1;have hmpe:=hmpd.kept ((Only.refl wd (fun _=>False)).drewN 1) (fun q=>q);have HBLK:=Lib.hid (hOe.blk (fun q=>q) hBLK);clear c2 y0 y1;change Mp _ _ wd.drew _ _ _ at hmpe;generalize wd.drew=we at hOe hmpe HBLK ⊢;refine wpList_mp_del rfl (.tmp 23) (.tmp 24) 135 77 rfl 3 kd Tryz.underlying135 b _ n rfl hmpe k rfl hk n1 (by simp [HM.out,HN1.out]) ?_
  intro w1 hmp1 hg1;have hO1:Only w w1 (fun j=>j=b):=(hOe.mono (fun _ q=>q.elim)).tr (Only.grown hg1 (Or.inl rfl));have hO1':Only we w1 (fun j=>j=b):=Only.grown hg1 (Or.inl rfl);have HB1:=Lib.hid (hO1'.blk hrb HBLK.out);have hrow1:=hrow.kept hO1 hgb;obtain ⟨⟨ku,vu⟩,hTu⟩:∃ x,T n1=x:=⟨_,rfl⟩;have c1:=cell_of_row _ _ 1 _ _ _ HB1.out;have x0:w1.cell? ⟨g,n1*5,none⟩=some (.int .i64 ku.1):=hrow1.cell (c:=0) hn1n (by rw [hTu];rfl) rfl
  have xk:w1.cell? ⟨g,n1*5+1,none⟩=some (.int .i64 ku.2):=hrow1.cell (c:=1) hn1n (by rw [hTu];rfl) rfl
  have x1:w1.cell? ⟨g,n1*5+2,none⟩=some (.int .i64 vu.1):=hrow1.cell (c:=2) hn1n (by rw [hTu];rfl) rfl
  have x2:w1.cell? ⟨g,n1*5+3,none⟩=some (.int .i64 vu.2.1):=hrow1.cell (c:=3) hn1n (by rw [hTu];rfl) rfl
  have x3:w1.cell? ⟨g,n1*5+4,none⟩=some (.int .i64 vu.2.2):=hrow1.cell (c:=4) hn1n (by rw [hTu];rfl) rfl
  have HTU:=Lib.hid hTu;clear hTu;go_upto_region 7 with (fail)
  have hO2:Only w1 (w1.alloc (.cells #[.int .i64 ku.1,.int .i64 ku.2,.int .i64 vu.1,.int .i64 vu.2.1,.int .i64 vu.2.2] 139)) (fun _=>False):=(Only.refl w1 _).alloc _;have HBX:=Lib.hid (heap_alloc_new w1 (.cells #[.int .i64 ku.1,.int .i64 ku.2,.int .i64 vu.1,.int .i64 vu.2.1,.int .i64 vu.2.2] 139));clear c1 x0 xk x1;clear x2 x3;generalize w1.alloc (.cells #[.int .i64 ku.1,.int .i64 ku.2,.int .i64 vu.1,.int .i64 vu.2.1,.int .i64 vu.2.2] 139)=w2 at hO2 HBX ⊢;have HB2:=Lib.hid (hO2.blk (fun q=>q) HB1.out);have hrow2:=hrow1.kept hO2 (fun q=>q);have hmp2:=hmp1.kept hO2 (fun q=>q);have c1:=cell_of_row _ _ 1 _ _ _ HB2.out;go_upto_region 8 with (refine wpList_item_set enc rfl 139 (.tmp 44) (.tmp 43) rfl sizeIt g n cap n1 T rfl ((0,0),(0,0,0)) rfl hrow2 hn1n ?_;intro w3 hrow3 hg3;clear c1)
  have hO3:Only w2 w3 (fun j=>j=g):=Only.grown hg3 (Or.inl rfl);have HB3:=Lib.hid (hO3.blk hrg HB2.out);have hmp3:=hmp2.kept hO3 (fun q=>hgb q.symm);have c1:=cell_of_row _ _ 1 _ _ _ HB3.out;go_upto_region 9 with (with_reducible refine wpList_store_one rfl 134 (.tmp 53) (.tmp 51) rfl sizeSl r 1 rfl (.slice (some ⟨g,0,none⟩) n1 cap) rfl (cells_slice _ _ _) (one_slice _ _ _) [Fv,.slice (some ⟨g,0,none⟩) n cap,.map (some b)] 137 HB3.out (len3_1 _ _ _) ?_;intro w4 HB4 hg4;clear c1)
  have hO4:Only w3 w4 (fun j=>j=r):=Only.grown hg4 (Or.inl rfl);have hrow4:Row ic 5 139 w4 g n1 cap T:=((hrow3.kept hO4 (fun q=>hrg q.symm)).less (by omega)).ext (fun j hj=>by rw [upd_ne _ _ (by omega)])
  have hst:St w4 r Fv g cap b n1 T (updZ M k none) n1:=⟨HB4.out,hrow4,by rw [mapZn];exact hmp3.kept hO4 (fun q=>hrb q.symm),hrg,hrb,hgb,fun j hj=>hkeys j (by omega)⟩
  have hfull:Full lt ok (n1+1) T M A:=by rw [←HN1.out];exact HFU.out
  have hall:Only w w4 (fun j=>j=b∨j=g∨j=r):=(((hO1.mono (fun _ q=>Or.inl q)).tr (hO2.mono (fun _ q=>q.elim))).tr (hO3.mono (fun _ q=>Or.inr (Or.inl q)))).tr (hO4.mono (fun _ q=>Or.inr (Or.inr q)));have hallX:Only w w4 (fun j=>X j∨S j):=hall.mono (fun j q=>by rcases q with q | q | q <;> rw [q];exact Or.inl (h3 b rfl);exact Or.inl (h2 g rfl);exact Or.inl h1)
  have hC4:=L.keep w w4 m _ hC hall (fun j q e=>by rcases e with e | e | e <;> rw [e] at q;exact hS b q (h3 b rfl);exact hS g q (h2 g rfl);exact hS r q h1)
  by_cases hlt:i<n1
  ·have hdi:decide ((i:Int)<(n1:Int))=true:=by simp;omega
   obtain ⟨hho,hpl⟩:=hfull.drop (T':=T) odr HM.out hlt (fun _ _=>rfl);rw [HTU.out] at hpl;have hMu:M ku=some n1:=(hfull.at_ ku n1).2 ⟨by omega,by rw [HTU.out]⟩
   have hku:ku≠k:=by
    intro e;rw [e,HM.out] at hMu;injection hMu;omega
   have hAu:A ku=some vu:=(hfull.con _ _).2 ⟨n1,by omega,HTU.out⟩
   have hoku:=hfull.okV n1 (by omega)
   have hkku:=hkeys n1 (by omega)
   rw [HTU.out] at hoku hkku;have hSd:∀ j,S j→j≠r∧j≠g∧j≠b:=fun j q=>⟨fun e=>hS j q (by rw [e];exact h1),fun e=>hS j q (by rw [e];exact h2 g rfl),fun e=>hS j q (by rw [e];exact h3 b rfl)⟩
   have hset:=settle_any L g cap b n1 T _ n1 i ku _ vu w4 hst hho hpl hoku hkku (by omega) (by omega) m hm hC4 hSd (fun j q=>Nat.lt_of_lt_of_le (hSw j q) hall.size) n1 (by rw [updZ_ne _ _ hku,hMu];rfl)
   rw [updZ_back _ _ _ (by rw [updZ_ne _ _ hku];exact hAu)] at hset
   have hB5:=(hO3.mono (S':=fun j=>j=g∨j=r) (fun _ q=>Or.inl q)).tr (hO4.mono (fun _ q=>Or.inr q));have HBX4:=hB5.blk (fun q=>by have a1:=lt_of_row HB1.out;have a2:=hrow1.lt;omega) HBX.out
   have z0:=cell_of_row _ _ 0 _ _ _ HBX4;have z1:=cell_of_row _ _ 1 _ _ _ HBX4;have z2:=cell_of_row _ _ 2 _ _ _ HBX4;have z3:=cell_of_row _ _ 3 _ _ _ HBX4;have z4:=cell_of_row _ _ 4 _ _ _ HBX4;clear hMu hAu;go_wp2_with fail
   refine hset.mono ?_;rintro e w' ⟨rfl,T',M',a,hst',hful',ha,hC',hO'⟩;clear hset z0 z1;clear z2 z3;clear z4;go_wp2_with fail
   go_ret
   have hO6:Only w w' (fun j=>X j∨S j):=hallX.tr (hO'.mono (fun j q=>by rcases q with q | q | q;exact Or.inl (by rw [q];exact h2 g rfl);exact Or.inl (by rw [q];exact h3 b rfl);exact Or.inr q))
   obtain ⟨X',hX1,hX2⟩:=settled_ob (w:=w) hst' hful' h1 h4 hO6.size (Or.inl (h2 g rfl)) (Or.inl (h3 b rfl));exact ⟨rfl,X',a,hX1,hX2,ha,hC',hO6⟩
  ·have hdi:decide ((i:Int)<(n1:Int))=false:=by simp;omega
   have hin1:i=n1:=by have:=HN1.out;omega
   have hMn:M k=some n1:=by rw [HM.out,hin1]
   have hful':=hfull.last (T':=T) hMn (fun _ _=>rfl);clear hMn;have HIN:=Lib.hid hin1;clear hin1;go_wp2_with fail
   go_ret
   obtain ⟨X',hX1,hX2⟩:=settled_ob (w:=w) hst hful' h1 h4 hallX.size (Or.inl (h2 g rfl)) (Or.inl (h3 b rfl));exact ⟨rfl,X',0,hX1,hX2,by omega,hC4,hallX⟩
end Go.Proofs.YthdengocipfgiaaGreat.W.HT
