import Derived.Test.YthdengocipfgiaaGreatCbA
import Derived.Test.YthdengocipfgiaaGreatSrt
import Derived.Test.YthdengocipfgiaaGreatCaA
import Derived.BigRegion
import Derived.BigQuiet
import Derived.Test.YthdengocipfgiaaGreatCbC
import Derived.Deep.RegionHeld3
import Derived.Deep.LoopGhost
/- A part of what core's laws stand on. -/
set_option linter.unusedVariables false
set_option linter.unusedSimpArgs false
set_option maxRecDepth 100000
set_option maxHeartbeats 3200000
namespace Go.Proofs.YthdengocipfgiaaGreat.W.C
open Go.RowKit Go.Shelf Go.Sort Go.Proofs.YthdengocipfgiaaGreat.W
theorem k_cmp (x y:Int) (w:World):Calls Tryz.prog 35 #[.int .i64 x,.int .i64 y] w fun e w'=>e=.returned (.int .i64 (Lib.compareInt x y))∧w'=w:=by
 have h:=AnyG.cmp_Compare_int Tryz.cmpI x y w;change Calls Tryz.prog 35 _ _ _ at h;exact h
theorem c_risingF (w:World) (p q:Nat) (x y:Int) (hb:w.cell? ⟨p,0,none⟩=some (.int .i64 x)) (hc:w.cell? ⟨q,0,none⟩=some (.int .i64 y)):Calls Tryz.prog 34 #[ptr p,ptr q] w fun e w'=>e=.returned (.int .i64 (Lib.compareInt x y))∧∃ n,w'=w.drewN n:=by
 have HK:=Lib.hid (fun v:World=>k_cmp x y v);generalize Lib.compareInt x y=r at HK ⊢
 go_enter Tryz.func34,Tryz.ntmps34
 go_wp2_with fail
 go_quiet ((go_at_call 35;exact Calls.quiet_of_same (HK.out _)))
 go_wp2_with fail
 go_ret
 exact ⟨rfl,_,rfl⟩
theorem c_readiness (w:World) (p:Nat) (b:Bo) (hb:Bx w p b):Calls Tryz.prog 166 #[ptr p] w fun e w'=>e=.returned (.int .i64 (rd b.q))∧w'=w:=by
 obtain ⟨bi,bf,bh,bm,bq,bp,bt⟩:=b
 cases bq <;>
 ·have h4:=cellL hb 4 _ rfl
  simp only [Ph.st] at h4;clear hb
  go_enter Tryz.func166,Tryz.ntmps166
  go_wp2_with fail
  go_ret
  exact ⟨rfl,rfl⟩
theorem c_fresher (w:World) (p q:Nat) (b c:Bo) (hb:Bx w p b) (hc:Bx w q c):Calls Tryz.prog 63 #[ptr p,ptr q] w fun e w'=>e=.returned (.bool (if b.t=c.t then decide (b.id<c.id) else decide (b.t > c.t)))∧∃ n,w'=w.drewN n:=by
 obtain ⟨bi,bf,bh,bm,bq,bp,bt⟩:=b;obtain ⟨ci,cf,ch,cm,cq,cp,ct⟩:=c;have b0:w.cell? ⟨p,0,none⟩=some (.int .i64 bi):=cellL hb 0 _ rfl;have b7:w.cell? ⟨p,7,none⟩=some (.int .i64 bt):=cellL hb 7 _ rfl;have c0:w.cell? ⟨q,0,none⟩=some (.int .i64 ci):=cellL hc 0 _ rfl;have c7:w.cell? ⟨q,7,none⟩=some (.int .i64 ct):=cellL hc 7 _ rfl;clear hb hc
 by_cases e:bt=ct
 ·subst e
  simp only [if_true]
  go_enter Tryz.func63,Tryz.ntmps63
  go_wp2_with fail
  go_quiet (fail)
  go_wp2_with fail
  go_quiet (fail)
  go_wp2_with fail
  go_ret
  exact ⟨rfl,_,World.drewN_drewN _ _ _⟩
 ·have e':(bt == ct)=false:=by simp [e]
  have hg:(if bt=ct then decide (bi<ci) else decide (bt > ct))=decide (bt > ct):=if_neg e
  simp only [hg];clear hg e
  go_enter Tryz.func63,Tryz.ntmps63
  go_wp2_with fail
  go_quiet (fail)
  go_wp2_with fail
  go_quiet (fail)
  go_wp2_with fail
  go_ret
  exact ⟨rfl,_,World.drewN_drewN _ _ _⟩
theorem putCells_take {α:Type} [Inhabited α] (enc:α→Value) (d:List α) (cur:Array Value) (h:d.length≤cur.size):(putCells enc 0 d.toArray cur).toList.take d.length=d.map enc:=by
 refine List.ext_getElem? fun j=>?_
 by_cases hj:j<d.length
 ·rw [List.getElem?_take_of_lt hj]
  have hj':j<cur.size:=by omega
  simp [putCells,hj,hj']
 ·rw [List.getElem?_eq_none (by simp;omega),List.getElem?_eq_none (by simp;omega)]
theorem sort_left {α:Type} [Inhabited α] (enc:α→Value) {w:World} {T:TypeId} {base g n c:Nat} {d d':List α} {m:Nat} {os:Array Obj} (hr:w.ownsRow base T 1 (.slice (some ⟨g,0,none⟩) n c) n (d.map enc)) (hl:d'.length=d.length) :
  (sortWorld enc w g 0 m d'.toArray os).ownsRow base T 1 (.slice (some ⟨g,0,none⟩) n c) n (d'.map enc)∧w.grownBy (sortWorld enc w g 0 m d'.toArray os) (some g):=by
 obtain ⟨h1,h2⟩:=hr
 rcases h2 with ⟨hv,_⟩ | ⟨g',cap',cur,hv,h3,h4,h5,h6,h7,h8⟩
 ·cases hv
 ·injection hv with e1 e2 e3
  cases e1;cases e3
  have hn:d.length=n:=by simpa using h1
  have hlt:g<w.heap.size:=(Array.getElem?_eq_some_iff.1 h4).1;refine ⟨⟨by simp;omega,Or.inr ⟨g,c,putCells enc 0 d'.toArray cur,rfl,h3,?_,h5,h6,by simp [putCells];omega,?_⟩⟩,⟨rfl,rfl,rfl,?_,?_⟩⟩
  ·show (((w.heap.modify g (onCells (putCells enc 0 d'.toArray))) ++ os:Array Obj))[g]?=_
   rw [Array.getElem?_append_left (by simpa using hlt),Array.getElem?_modify,if_pos rfl,h4];rfl
  ·rw [←putCells_take enc d' cur (by omega)]
   congr 1;omega
  ·show w.heap.size≤((w.heap.modify g (onCells (putCells enc 0 d'.toArray))) ++ os:Array Obj).size
   simp
  ·intro k hk hne
   show (((w.heap.modify g (onCells (putCells enc 0 d'.toArray))) ++ os:Array Obj))[k]?=_;rw [Array.getElem?_append_left (by simpa using hk),Array.getElem?_modify,if_neg (fun e=>hne (by rw [e]))]
abbrev Nm (A:Int→Bool):={i:Int // A i=true}
abbrev encN (A:Int→Bool) (bx:Int→Nat):Nm A→Value:=fun i=>ptr (bx i.1)
def Tkn (A:Int→Bool) (left:Int→Bool) (ys:List (Nm A)):Prop:=(ys.map (·.1)).Nodup∧∀ z,(KL z).wf=true→left z=(A z && !(ys.map (·.1)).contains z)
theorem Tkn.start {A:Int→Bool} {M:Int→Option Value} {bx:Int→Nat} (hM:∀ i,M i=if A i=true then some (ptr (bx i)) else none):Tkn A (fun x=>(M x).isSome) [] :=
 ⟨List.nodup_nil,fun z _=>by
  show (M z).isSome=_;rw [hM z]
  cases A z <;> simp⟩
theorem Tkn.step {A:Int→Bool} {left:Int→Bool} {ys:List (Nm A)} (h:Tkn A left ys) {x:Int} (hw:(KL x).wf=true) (hx:left x=true):∃ hA:A x=true,Tkn A (fun z=>left z && !(z == x)) (ys ++ [⟨x,hA⟩]):=by
 have h1:=h.2 x hw;rw [hx] at h1;have hA:A x=true:=by cases q:A x <;> simp [q] at h1 ⊢
 refine ⟨hA,?_,fun z hz=>?_⟩
 ·have hn:¬ x ∈ ys.map (·.1):=by
   intro q;rw [hA] at h1;simp only [Bool.true_and] at h1;have:(ys.map (·.1)).contains x=true:=by simpa using q
   rw [this] at h1;cases h1
  rw [List.map_append,List.nodup_append];refine ⟨h.1,by simp,fun a ha b hb e=>?_⟩
  simp at hb;subst hb;subst e;exact hn ha
 ·show (left z && !(z == x))=_
  rw [h.2 z hz,List.map_append]
  by_cases e:z=x
  ·subst e;simp
  ·cases A z <;> simp [e]
theorem Tkn.all {A:Int→Bool} {left:Int→Bool} {ys:List (Nm A)} (h:Tkn A left ys) (hd:∀ x,(KL x).wf=true→left x=false) (z:Int) (hz:(KL z).wf=true):z ∈ ys.map (·.1)↔A z=true:=by
 refine ⟨fun q=>?_,fun q=>?_⟩
 ·obtain ⟨i,_,rfl⟩:=List.mem_map.1 q;exact i.2
 ·have h1:=h.2 z hz
  rw [hd z hz,q] at h1
  simpa using h1.symm
theorem sorted_is {A:Int→Bool} {R:List Int} (hR:R.Pairwise (· < ·)) (hA:∀ i,i ∈ R↔A i=true) (hw:∀ i,A i=true→(KL i).wf=true) {ys:List (Nm A)} (hn:(ys.map (·.1)).Nodup) (hm:∀ z,(KL z).wf=true→(z ∈ ys.map (·.1)↔A z=true)) (le:Nm A→Nm A→Bool) (hle:∀ x y,le x y=decide (x.1≤y.1)) :
  (ys.mergeSort le).map (·.1)=R:=by
 have hp:(ys.mergeSort le).Perm ys:=List.mergeSort_perm _ _;have hs:(ys.mergeSort le).Pairwise (fun a b=>le a b=true):=List.pairwise_mergeSort (fun a b c h1 h2=>by rw [hle] at *;simp at *;omega) (fun a b=>by rw [hle,hle];simp;omega) ys
 have hs':((ys.mergeSort le).map (·.1)).Pairwise (·≤·):=by
  rw [List.pairwise_map];exact hs.imp (fun {a b} q=>by rw [hle] at q;simpa using q)
 have hR':R.Pairwise (·≤·):=hR.imp (fun {a b} q=>by omega)
 refine List.Perm.eq_of_pairwise (fun a b _ _ h1 h2=>by omega) hs' hR' ?_
 refine ((hp.map (·.1)).trans ?_);have hRn:R.Nodup:=hR.imp (fun {a b} q=>by omega)
 refine (List.perm_ext_iff_of_nodup hn hRn).2 fun z=>?_;rw [hA z];refine ⟨fun q=>?_,fun q=>(hm z (hw z q)).2 q⟩;obtain ⟨i,_,rfl⟩:=List.mem_map.1 q;exact i.2
theorem infoBP:(Tryz.prog.info? 45).map (fun i=>(i.zero,i.size,i.bytes))=some (some (.pointer none),1,8):=by kernel_rfl
def cfN (A:Int→Bool):Nm A→Nm A→Int:=fun x y=>Lib.compareInt x.1 y.1
theorem ltN (A:Int→Bool) (x y:Nm A):ltOf (cfN A) x y=decide (x.1<y.1):=by
 unfold ltOf cfN Lib.compareInt
 split
 ·simp;assumption
 ·split <;> simp <;> omega
theorem swoN (A:Int→Bool):SWO (ltOf (cfN A)) where
 irrefl x:=by rw [ltN];simp
 trans x y z h1 h2:=by rw [ltN] at *;simp at *;omega
 ntrans x y z h1 h2:=by rw [ltN] at *;simp at *;omega
theorem totN (A:Int→Bool) (x y:Nm A) (h1:ltOf (cfN A) x y=false) (h2:ltOf (cfN A) y x=false):x=y:=by rw [ltN] at *;simp at *;exact Subtype.ext (by omega)
theorem leN (A:Int→Bool) (x y:Nm A):(!ltOf (cfN A) y x)=decide (x.1≤y.1):=by
 rw [ltN]
 by_cases h:x.1≤y.1
 ·have h':¬ y.1<x.1:=by omega
  simp [h,h']
 ·have h':y.1<x.1:=by omega
  simp [h,h']
theorem k_sort {w:World} {A:Int→Bool} {bx:Int→Nat} {g n c base:Nat} (ys:List (Nm A)) (hl:ys.length=n) (hn:n≤1073741824) (hr:w.ownsRow base 45 1 (.slice (some ⟨g,0,none⟩) n c) n (ys.map (encN A bx))) (hb:∀ i,A i=true→w.cell? ⟨bx i,0,none⟩=some (.int .i64 i)) (hne:∀ i,A i=true→bx i≠g)
  {R:List Int} (hR:R.Pairwise (· < ·)) (hA:∀ i,i ∈ R↔A i=true) (hw:∀ i,A i=true→(KL i).wf=true) (hnd:(ys.map (·.1)).Nodup) (hm:∀ z,(KL z).wf=true→(z ∈ ys.map (·.1)↔A z=true)) :
  Calls Tryz.prog 33 #[.slice (some ⟨g,0,none⟩) n c,.func (.func 34) #[] #[]] w fun e w' =>
   e=.returned (.tuple #[])∧w'.ownsRow base 45 1 (.slice (some ⟨g,0,none⟩) n c) n (R.map (fun i=>ptr (bx i)))∧w.grownBy w' (some g)∧R.length=n:=by
 subst hl;have hlt:=(own_cap hr).2.1
 cases ys with
 | nil =>
  have hS:=AnyF.slices_SortFunc_none (P:=Tryz.prog) (ρ:=Tryz.sortP_ren) { Tryz.sortP with } (some ⟨g,0,none⟩) c (.func (.func 34) #[] #[]) w
  have hR0:R=[]:=by
   cases R with
   | nil=>rfl
   | cons i t =>
    have:=(hm i (hw i ((hA i).1 (by simp)))).2 ((hA i).1 (by simp))
    simp at this
  subst hR0;change Calls Tryz.prog 33 _ _ _ at hS;refine hS.mono ?_;rintro e w' ⟨rfl,rfl⟩;exact ⟨rfl,hr,World.grownBy.refl _ _,rfl⟩
 | cons y0 yt =>
  obtain ⟨ys,hys⟩:∃ ys,ys=y0 :: yt:=⟨_,rfl⟩;rw [←hys] at hr hn hnd hm ⊢
  haveI:Inhabited (Nm A):=⟨y0⟩
  have hH:Holds (encN A bx) w g 0 ys.toArray:=by
   intro j hj;have hj':j<ys.length:=by simpa using hj
   obtain ⟨_,h2⟩:=hr
   rcases h2 with ⟨hv,_⟩ | ⟨g',cap',cur,hv,h3,h4,h5,h6,h7,h8⟩
   ·cases hv
   ·injection hv with e1 e2 e3
    cases e1;cases e3
    have h9:cur[j]?=some (encN A bx ys[j]):=by
     have:=congrArg (fun l=>l[j]?) h8
     simp only [Nat.mul_one] at this;rw [List.getElem?_take_of_lt hj'] at this
     simpa [hj'] using this
    refine ⟨?_,?_⟩
    ·rw [Nat.zero_add]
     have h10:w.heap[g]?=some (.cells cur.toList.toArray 45 (0,0)):=by simpa using h4
     have:=cellL h10 j _ (by simpa using h9)
     simpa [hj'] using this
    ·exact frozen_of_row _ _ _ _ _ h4
  have eg:∀ args w,(callFunc 34 args).run Tryz.prog w=.ok (.enter 34 args) w:=enters_of Tryz.func34 (by kernel_rfl) rfl
  have hC:CmpReads Tryz.prog 34 #[] (encN A bx) (cfN A) g 0 ys.toArray.size w:=by
   intro k os dk hdk x y;have hgr:=(sort_left (encN A bx) (d:=ys) (d':=dk.toList) (m:=k) (os:=os) hr (by simpa using hdk)).2
   rw [Array.toArray_toList] at hgr;refine c_risingF _ (bx x.1) (bx y.1) x.1 y.1 ?_ ?_
   ·have h1:=hb _ x.2
    rw [World.cell?_of_block (hgr.block _ (cell_lt h1) (by simpa using hne _ x.2))];exact h1
   ·have h1:=hb _ y.2
    rw [World.cell?_of_block (hgr.block _ (cell_lt h1) (by simpa using hne _ y.2))];exact h1
  have hS:=Any.slices_SortFunc_total Tryz.sortP (encN A bx) (fun _=>rfl) (cfN A) (swoN A) 34 #[] g 0 c ys.toArray w eg hC.lays hH hlt (by simp;omega) (totN A)
  change Calls Tryz.prog 33 _ _ _ at hS;have hsz:ys.toArray.size=ys.length:=by simp
  rw [hsz] at hS;refine hS.mono ?_;rintro e w' ⟨rfl,k,os,rfl⟩;have hI:=sorted_is hR hA hw hnd hm (fun x y=>!ltOf (cfN A) y x) (leN A);have hL:=sort_left (encN A bx) (d':=ys.mergeSort (fun x y=>!ltOf (cfN A) y x)) (m:=k) (os:=os) hr (by simp)
  have hmap:(ys.mergeSort (fun x y=>!ltOf (cfN A) y x)).map (encN A bx)=R.map (fun i=>ptr (bx i)):=by rw [←hI,List.map_map];rfl
  rw [hmap] at hL;refine ⟨rfl,hL.1,hL.2,?_⟩;rw [←hI];simp
theorem c_rising (w:World) (m n:Nat) (A:Int→Bool) (bx:Int→Nat) (M:Int→Option Value) (R:List Int) (h:Mp Tryz.prog 3 w m M n) (hM:∀ i,M i=if A i=true then some (ptr (bx i)) else none) (hn:n≤1073741824) (hb:∀ i,A i=true→w.cell? ⟨bx i,0,none⟩=some (.int .i64 i))
  (hR:R.Pairwise (· < ·)) (hA:∀ i,i ∈ R↔A i=true) (hw:∀ i,A i=true→(KL i).wf=true) :
  Calls Tryz.prog 19 #[.map (some m)] w fun e w'=>∃ g c,e=.returned (.slice (some ⟨g,0,none⟩) R.length c)∧w'.ownsRow w.heap.size 45 1 (.slice (some ⟨g,0,none⟩) R.length c) R.length (R.map (fun i=>ptr (bx i)))∧Below w.heap.size w w':=by
 have hi0:=infoBP
 cases hi:Tryz.prog.info? 45 with
 | none=>rw [hi] at hi0;cases hi0
 | some i0 =>
 rw [hi] at hi0;simp only [Option.map_some,Option.some.injEq,Prod.mk.injEq] at hi0;obtain ⟨hz0,hz1,hz2⟩:=hi0;have hmlt:=h.lt;have HM:=Lib.hid hM;have HB:=Lib.hid hb;have HX:=Lib.hid (And.intro hR (And.intro hA hw));clear hM hb hR hA hw
 go_enter Tryz.func19,Tryz.ntmps19
 go_upto_region 2 with (first
  | (at_len;refine wpList_mp_len rfl (.tmp 6) 57 rfl 3 45 Tryz.underlying57 m _ n rfl h ?_)
  | (at_make;refine wpList_make_row rfl (.const (.int .i64 0)) (.tmp 7) 73 rfl 45 i0 (.pointer none) Tryz.underlying73 hi hz0 hz1 rfl _ _ 0 (n:Int) 0 n rfl rfl rfl rfl (by omega) (by rw [hz2];omega) (by omega) ?_;intro w3 HG3 hg3 hs3))
 have own3:w3.ownsRow w.heap.size 45 1 (.slice (some ⟨w.heap.size,0,none⟩) 0 n) 0 []:=own_made (cs:=[]) (z:=.pointer none) rfl (by omega) (by omega) (by simpa [splice] using HG3) (Nat.le_refl _)
 have h3:=h.kept (Only.grownN (S:=fun _=>False) hg3) (fun q=>q);have b3:Below w.heap.size w w3:=grown_below hg3;clear h HG3
 go_upto_region 3 with (first
  | (at_range;refine wpList_rngi rfl (.tmp 9) 57 rfl 3 45 Tryz.underlying3 Tryz.underlying57 m _ n rfl h3 ?_;intro w4 hrg4 hg4))
 have own4:=own_below own3 (grown_below hg4) (Nat.le_refl _);have b4:Below w.heap.size w w4:=b3.trans ((grown_below hg4).mono b3.size);obtain ⟨rb,hrb⟩:∃ rb,w3.heap.size=rb:=⟨_,rfl⟩;have HNE:=Lib.hid (show w.heap.size<rb by omega)
 rw [hrb] at hrg4;rw [hrb];clear hrb h3 own3 hg4 hg3 hs3 b3
 go_frame
 go_loopg [3] n (fun gk v3 wr=>∃ (left:Int→Bool) (ys:List (Nm A)) (g cp:Nat),v3=.slice (some ⟨g,0,none⟩) ys.length cp∧Hid (wr.ownsRow w.heap.size 45 1 (.slice (some ⟨g,0,none⟩) ys.length cp) ys.length (ys.map (encN A bx)))∧Ri Tryz.prog 3 wr m rb M n left gk∧Hid (Tkn A left ys)∧Hid (ys.length+gk≤n)∧Hid (g≠rb)∧Below w.heap.size w wr)
 case atStart=>exact ⟨_,[],w.heap.size,n,rfl,Lib.hid own4,hrg4,Lib.hid (Tkn.start HM.out),Lib.hid (by simp),Lib.hid (by have:=HNE.out;omega),b4⟩
 case round =>
  clear hrg4 own4 b4;obtain ⟨left,ys,g,cp,rfl,HO,hrg,HT,HL,HG,bz⟩:=hrel;go_wp2_with (at_next;refine wpList_nxti rfl (.tmp 10) rfl 3 Tryz.underlying3 m rb M n left gk rfl hrg ?_ ?_)
  ·intro hdone
   have ks:=k_sort ys rfl (by have:=HL.out;omega) HO.out (fun i q=>by rw [World.cell?_of_block (bz.block _ (cell_lt (HB.out i q)))];exact HB.out i q) (fun i q e=>by have:=cell_lt (HB.out i q);have:=(own_cap HO.out).2.2;simp only at *;omega) HX.out.1 HX.out.2.1 HX.out.2.2 HT.out.1 (HT.out.all hdone)
   go_wp2_with fail
   with_reducible refine ks.mono ?_
   rintro e w5 ⟨rfl,own5,g5,hlen⟩
   have b5:Below w.heap.size w w5:=by
    have hz:=(own_cap HO.out).2.2;exact bz.trans ⟨g5.os,g5.tape,g5.output,g5.size,fun j hj=>g5.block j (by have:=bz.size;omega) (by simp;omega)⟩
   clear ks HO hrg bz g5;go_wp2_with fail
   go_ret
   rw [←hlen] at own5;exact ⟨g,cp,by rw [hlen];rfl,own5,b5⟩
  ·intro x v w5 g1 hg1 hwx hlx hMx hrg5 hg5 hen
   obtain ⟨hAx,HT'⟩:=HT.out.step hwx hlx;have hv:v=ptr (bx x):=by rw [HM.out x,if_pos hAx] at hMx;injection hMx with hMx;exact hMx.symm
   subst hv;have own5:=own_off HO.out hg5 HG.out;have hl5:=HL.out;have b5:Below w.heap.size w w5:=bz.trans ⟨hg5.os,hg5.tape,hg5.output,hg5.size,fun j hj=>hg5.block j (by have:=bz.size;omega) (by have:=HNE.out;simp;omega)⟩
   have hs5:=b5.size;clear hrg HO hg5 bz HT;go_wp2_with (at_builtin;refine wpList_app1 rfl (.tmp 15) (.tmp 17) 73 rfl w.heap.size 45 i0 (.pointer none) 8 Tryz.underlying73 hi hz0 hz1 hz2 rfl (.slice (some ⟨g,0,none⟩) ys.length cp) ys.length (ys.map (encN A bx)) rfl own5 (ptr (bx x)) _ rfl _ rfl rfl (by omega) (by omega) hs5 ?_;intro g' cp' w6 own6 hg6 hat6 hlt6)
   have hgw:=(own_cap own5).2.2;have hgl:=(own_cap own5).2.1;have hg6':w5.grownBy w6 (some g):=hg6;have hat:g=g'∨w5.heap.size≤g':=hat6.imp (fun q=>by have q':some g=some g':=q;injection q') id
   have hrg6:Ri Tryz.prog 3 w6 m rb M n (fun z=>left z && !(z == x)) g1:=hrg5.kept (Only.grown (S:=fun j=>j=g) hg6' (Or.inl rfl)) (fun q=>by have q':m=g:=q;omega) (fun q=>HG.out q.symm)
   have b6:Below w.heap.size w w6:=b5.trans ⟨hg6'.os,hg6'.tape,hg6'.output,hg6'.size,fun j hj=>hg6'.block j (by omega) (by simp;omega)⟩
   have HG1:=Lib.hid hg1;have HO6:Hid (w6.ownsRow w.heap.size 45 1 (.slice (some ⟨g',0,none⟩) (ys ++ [(⟨x,hAx⟩:Nm A)]).length cp') (ys ++ [(⟨x,hAx⟩:Nm A)]).length ((ys ++ [(⟨x,hAx⟩:Nm A)]).map (encN A bx))):=Lib.hid (by simpa using own6)
   have hlr:rb<w5.heap.size:=hrg5.ne.2
   have hne:g'≠rb:=by
    rcases hat with q | q
    ·rw [←q];exact HG.out
    ·omega
   have HNE':=Lib.hid hne;have HL5:=Lib.hid hl5;clear own5 hrg5 hg6 hg6' hat6 hat own6 hgl hgw b5 hs5 hl5 hne hlr hg1 hwx hlx hMx hen hlt6;go_roundg g1
   case measure=>exact HG1.out
   case rel=>exact ⟨_,ys ++ [⟨x,hAx⟩],g',cp',by simp,HO6,hrg6,Lib.hid HT',Lib.hid (by have:=HL5.out;have:=HG1.out;simp;omega),HNE',b6⟩
theorem c_or (w:World) (g:Nat) (a b:Int) (h0:w.cell? ⟨g,0,none⟩=some (.int .i64 a)) (h1:w.cell? ⟨g,1,none⟩=some (.int .i64 b)) :
  Calls Tryz.prog 165 #[.slice (some ⟨g,0,none⟩) 2 2] w fun e w'=>e=.returned (.int .i64 (if a=0 then b else a))∧w'=w:=by
 obtain ⟨z,hz⟩:∃ z,(if a=0 then b else a)=z:=⟨_,rfl⟩;rw [hz];have HZ:=Lib.hid hz;clear hz
 go_enter Tryz.func165,Tryz.ntmps165
 go_upto_region 3 with (fail)
 go_loopg [8] 2 (fun gk vi wr=>∃ i:Nat,vi=.int .i64 (i:Int)∧i+gk=2∧Hid (0<i→a=0)∧Hid (1<i→b=0)∧wr=w)
 case atStart=>exact ⟨0,rfl,rfl,Lib.hid (fun q=>by omega),Lib.hid (fun q=>by omega),rfl⟩
 case round =>
  obtain ⟨i,rfl,hik,HA,HB,rfl⟩:=hrel;obtain q | q | q:i=0∨i=1∨i=2:=by omega
  ·subst q
   by_cases ha:a=0
   ·subst ha
    go_wp2_with fail
    go_roundg 1
    case measure=>omega
    case rel=>exact ⟨1,rfl,rfl,Lib.hid (by simp),Lib.hid (by simp),rfl⟩
   ·have hn:(a != 0)=true:=by simp [ha]
    obtain rfl:a=z:=by have:=HZ.out;rwa [if_neg ha] at this
    clear ha HZ;go_wp2_with fail
    go_ret
    exact ⟨rfl,rfl⟩
  ·subst q
   have ha:=HA.out (by omega)
   subst ha;obtain rfl:b=z:=by have:=HZ.out;rwa [if_pos rfl] at this
   by_cases ha:b=0
   ·subst ha
    go_wp2_with fail
    go_roundg 0
    case measure=>omega
    case rel=>exact ⟨2,rfl,rfl,Lib.hid (by simp),Lib.hid (by simp),rfl⟩
   ·have hn:(b != 0)=true:=by simp [ha]
    clear ha HZ;go_wp2_with fail
    go_ret
    exact ⟨rfl,rfl⟩
  ·subst q
   have ha:=HA.out (by omega)
   have hb:=HB.out (by omega)
   subst ha hb;obtain rfl:(0:Int)=z:=by have:=HZ.out;rwa [if_pos rfl] at this
   go_wp2_with fail
   go_ret
   exact ⟨rfl,rfl⟩
def Grw (w w':World):Prop:=∃ n os,w'=Go.Sort.grow (w.drewN n) os
theorem Grw.refl (w:World):Grw w w:=⟨0,#[],by rw [Go.Sort.grow_empty];rfl⟩
theorem Grw.drew {w w':World} (h:Grw w w'):Grw w w'.drew:=by obtain ⟨n,os,rfl⟩:=h;exact ⟨n+1,os,rfl⟩
theorem Grw.alloc {w w':World} (h:Grw w w') (o:Obj):Grw w (w'.alloc o):=by
 obtain ⟨n,os,rfl⟩:=h;exact ⟨n,os ++ #[o],by rw [alloc_eq_grow,Go.Sort.grow_grow]⟩
abbrev Two (p q:Nat) (x y:Int) (b c:Bo) (w w':World):Prop:=Bx w' p b∧Bx w' q c∧w'.cell? ⟨p,0,none⟩=some (.int .i64 x)∧w'.cell? ⟨q,0,none⟩=some (.int .i64 y)∧Grw w w'
theorem two_alloc {p q:Nat} {x y:Int} {b c:Bo} {w w1:World} (h:Two p q x y b c w w1) (o:Obj):Two p q x y b c w (w1.alloc o):=by
 have hb:Below w1.heap.size w1 (w1.alloc o):=(Below.refl _ _).alloc (Nat.le_refl _) _;exact ⟨h.1.keep hb h.1.lt,h.2.1.keep hb h.2.1.lt,by rw [World.cell?_of_block (hb.block _ (cell_lt h.2.2.1))];exact h.2.2.1,by rw [World.cell?_of_block (hb.block _ (cell_lt h.2.2.2.1))];exact h.2.2.2.1,h.2.2.2.2.alloc o⟩
theorem cell_new_drew (w:World) (cs:Array Value) (t:TypeId) (j:Nat) (v:Value) (h:cs[j]?=some v):(w.alloc (.cells cs t)).drew.cell? ⟨w.heap.size,j,none⟩=some v:=by
 show (w.alloc (.cells cs t)).cell? ⟨w.heap.size,j,none⟩=some v;rw [cell_of_row _ _ _ _ _ _ (heap_alloc_new _ _)];exact h
theorem c_pinF (w:World) (p q:Nat) (x y:Int) (b c:Bo) (hb:Bx w p b) (hc:Bx w q c) (hx:b.id=x) (hy:c.id=y) :
  Calls Tryz.prog 164 #[ptr p,ptr q] w fun e w'=>e=.returned (.int .i64 (if Lib.compareInt (rd b.q) (rd c.q)=0 then Lib.compareInt x y else Lib.compareInt (rd b.q) (rd c.q)))∧Grw w w':=by
 have b0:w.cell? ⟨p,0,none⟩=some (.int .i64 x):=by rw [←hx];exact cellL hb 0 _ rfl
 have c0:w.cell? ⟨q,0,none⟩=some (.int .i64 y):=by rw [←hy];exact cellL hc 0 _ rfl
 have HT:Hid (Two p q x y b c w w.drew):=Lib.hid ⟨hb,hc,b0,c0,(Grw.refl _).drew⟩;obtain ⟨r,hr⟩:∃ r,Lib.compareInt (rd b.q) (rd c.q)=r:=⟨_,rfl⟩;obtain ⟨u,hu⟩:∃ u,Lib.compareInt x y=u:=⟨_,rfl⟩;have KR:=Lib.hid (fun (v:World)=>by have:=k_cmp (rd b.q) (rd c.q) v;rw [hr] at this;exact this)
 have KU:=Lib.hid (fun (v:World)=>by have:=k_cmp x y v;rw [hu] at this;exact this)
 have KO:=Lib.hid (fun (v:World) (g:Nat) h0 h1=>c_or v g r u h0 h1);rw [hr,hu];clear hx hy hr hu;generalize (if r=0 then u else r)=z at KO ⊢
 go_enter Tryz.func164,Tryz.ntmps164
 go_wp2_with fail
 clear hb hc b0 c0
 go_region_held3 (fun w'=>Two p q x y b c w w') (first | with_reducible exact HT.out | with_reducible assumption | exact two_alloc (by with_reducible assumption) _)
  (first
   | (go_at_call 166;with_reducible refine (c_readiness _ p b (show Two p q x y b c w _ by with_reducible assumption).1).mono ?_;rintro e w' ⟨rfl,rfl⟩)
   | (go_at_call 166;with_reducible refine (c_readiness _ q c (show Two p q x y b c w _ by with_reducible assumption).2.1).mono ?_;rintro e w' ⟨rfl,rfl⟩)
   | (go_at_call 35;with_reducible refine (KR.out _).mono ?_;rintro e w' ⟨rfl,rfl⟩)
   | (go_at_call 35;with_reducible refine (KU.out _).mono ?_;rintro e w' ⟨rfl,rfl⟩)
   | (go_at_call 165;with_reducible refine (KO.out _ _ ?_ ?_).mono ?_;exact cell_new_drew _ _ _ 0 _ rfl;exact cell_new_drew _ _ _ 1 _ rfl;rintro e w' ⟨rfl,rfl⟩))
 go_wp2_with fail
 go_ret
 exact ⟨rfl,((Grw.refl _).alloc _).drew⟩
theorem sorted_isG {A:Int→Bool} {R:List Int} (l:Int→Int→Prop) (hR:R.Pairwise l) (hasy:∀ x y,l x y→¬ l y x) (htot:∀ x y,¬ l x y→¬ l y x→x=y) (htr:∀ x y z,¬ l y x→¬ l z y→¬ l z x) (hA:∀ i,i ∈ R↔A i=true) (hw:∀ i,A i=true→(KL i).wf=true)
  {ys:List (Nm A)} (hn:(ys.map (·.1)).Nodup) (hm:∀ z,(KL z).wf=true→(z ∈ ys.map (·.1)↔A z=true)) (le:Nm A→Nm A→Bool) (hle:∀ x y,le x y=true↔¬ l y.1 x.1) :
  (ys.mergeSort le).map (·.1)=R:=by
 have hp:(ys.mergeSort le).Perm ys:=List.mergeSort_perm _ _
 have hs:(ys.mergeSort le).Pairwise (fun a b=>le a b=true):=List.pairwise_mergeSort (fun a b c h1 h2=>by rw [hle] at *;exact htr _ _ _ h1 h2) (fun a b=>by
  cases q:le a b
  ·have:¬ le a b=true:=by rw [q];simp
   rw [hle] at this;have h2:le b a=true:=by rw [hle];exact fun k=>this (fun k'=>hasy _ _ k k')
   simp [h2]
  ·simp) ys
 have hs':((ys.mergeSort le).map (·.1)).Pairwise (fun a b=>¬ l b a):=by
  rw [List.pairwise_map];exact hs.imp (fun {a b} q=>(hle a b).1 q)
 have hR':R.Pairwise (fun a b=>¬ l b a):=hR.imp (fun {a b} q=>hasy _ _ q);refine List.Perm.eq_of_pairwise (fun a b _ _ h1 h2=>htot _ _ h2 h1) hs' hR' ?_;refine ((hp.map (·.1)).trans ?_);have hRn:R.Nodup:=hR.imp (fun {a b} q e=>by subst e;exact hasy _ _ q q)
 refine (List.perm_ext_iff_of_nodup hn hRn).2 fun z=>?_;rw [hA z];refine ⟨fun q=>?_,fun q=>(hm z (hw z q)).2 q⟩;obtain ⟨i,_,rfl⟩:=List.mem_map.1 q;exact i.2
theorem k_sortG {F:FuncId} {w:World} {A:Int→Bool} {bx:Int→Nat} {g n c base:Nat} (ys:List (Nm A)) (hl:ys.length=n) (hn:n≤1073741824) (hr:w.ownsRow base 45 1 (.slice (some ⟨g,0,none⟩) n c) n (ys.map (encN A bx)))
  (cf:Nm A→Nm A→Int) (hO:SWO (ltOf cf)) (hT:∀ x y,ltOf cf x y=false→ltOf cf y x=false→x=y) (eg:∀ args w,(callFunc F args).run Tryz.prog w=.ok (.enter F args) w)
  (hcmp:∀ W,w.grownBy W (some g)→∀ x y:Nm A,Calls Tryz.prog F #[ptr (bx x.1),ptr (bx y.1)] W fun e w'=>e=.returned (.int .i64 (cf x y))∧Grw W w')
  {R:List Int} (hI:(ys.mergeSort fun x y=>!ltOf cf y x).map (·.1)=R) :
  Calls Tryz.prog 33 #[.slice (some ⟨g,0,none⟩) n c,.func (.func F) #[] #[]] w fun e w' =>
   e=.returned (.tuple #[])∧w'.ownsRow base 45 1 (.slice (some ⟨g,0,none⟩) n c) n (R.map (fun i=>ptr (bx i)))∧w.grownBy w' (some g)∧R.length=n:=by
 subst hl;have hlt:=(own_cap hr).2.1
 cases ys with
 | nil =>
  have hS:=AnyF.slices_SortFunc_none (P:=Tryz.prog) (ρ:=Tryz.sortP_ren) { Tryz.sortP with } (some ⟨g,0,none⟩) c (.func (.func F) #[] #[]) w
  have hR0:R=[]:=by rw [←hI];simp
  subst hR0;change Calls Tryz.prog 33 _ _ _ at hS;refine hS.mono ?_;rintro e w' ⟨rfl,rfl⟩;exact ⟨rfl,hr,World.grownBy.refl _ _,rfl⟩
 | cons y0 yt =>
  obtain ⟨ys,hys⟩:∃ ys,ys=y0 :: yt:=⟨_,rfl⟩;rw [←hys] at hr hn hI ⊢
  haveI:Inhabited (Nm A):=⟨y0⟩
  have hH:Holds (encN A bx) w g 0 ys.toArray:=by
   intro j hj;have hj':j<ys.length:=by simpa using hj
   obtain ⟨_,h2⟩:=hr
   rcases h2 with ⟨hv,_⟩ | ⟨g',cap',cur,hv,h3,h4,h5,h6,h7,h8⟩
   ·cases hv
   ·injection hv with e1 e2 e3
    cases e1;cases e3
    have h9:cur[j]?=some (encN A bx ys[j]):=by
     have:=congrArg (fun l=>l[j]?) h8
     simp only [Nat.mul_one] at this;rw [List.getElem?_take_of_lt hj'] at this
     simpa [hj'] using this
    refine ⟨?_,?_⟩
    ·rw [Nat.zero_add]
     have h10:w.heap[g]?=some (.cells cur.toList.toArray 45 (0,0)):=by simpa using h4
     have:=cellL h10 j _ (by simpa using h9)
     simpa [hj'] using this
    ·exact frozen_of_row _ _ _ _ _ h4
  have hC:CmpLays1 Tryz.prog F #[] (encN A bx) cf g 0 ys.toArray.size w:=by
   intro k os dk hdk x y;have hgr:=(sort_left (encN A bx) (d:=ys) (d':=dk.toList) (m:=k) (os:=os) hr (by simpa using hdk)).2
   rw [Array.toArray_toList] at hgr;refine (hcmp _ hgr x y).mono ?_;rintro e w' ⟨rfl,q,os',rfl⟩;exact ⟨rfl,q,os',rfl⟩
  have hS:=Any.slices_SortFunc_total Tryz.sortP (encN A bx) (fun _=>rfl) cf hO F #[] g 0 c ys.toArray w eg hC hH hlt (by simp;omega) hT
  change Calls Tryz.prog 33 _ _ _ at hS;have hsz:ys.toArray.size=ys.length:=by simp
  rw [hsz] at hS;refine hS.mono ?_;rintro e w' ⟨rfl,k,os,rfl⟩;have hL:=sort_left (encN A bx) (d':=ys.mergeSort (fun x y=>!ltOf cf y x)) (m:=k) (os:=os) hr (by simp)
  have hmap:(ys.mergeSort (fun x y=>!ltOf cf y x)).map (encN A bx)=R.map (fun i=>ptr (bx i)):=by rw [←hI,List.map_map];rfl
  rw [hmap] at hL;refine ⟨rfl,hL.1,hL.2,?_⟩;rw [←hI];simp
def lR (r:Int→Int) (x y:Int):Prop:=r x<r y∨(r x=r y∧x<y)
def cfR (A:Int→Bool) (r:Int→Int):Nm A→Nm A→Int:=fun x y=>if Lib.compareInt (r x.1) (r y.1)=0 then Lib.compareInt x.1 y.1 else Lib.compareInt (r x.1) (r y.1)
theorem ltR (A:Int→Bool) (r:Int→Int) (x y:Nm A):ltOf (cfR A r) x y=true↔lR r x.1 y.1:=by
 unfold ltOf cfR lR Lib.compareInt;generalize r x.1=a;generalize r y.1=b;rw [decide_eq_true_iff]
 repeat' split
 all_goals omega
theorem ltRf (A:Int→Bool) (r:Int→Int) (x y:Nm A):ltOf (cfR A r) x y=false↔¬ lR r x.1 y.1:=by
 rw [←ltR A r x y];simp
theorem swoR (A:Int→Bool) (r:Int→Int):SWO (ltOf (cfR A r)) where
 irrefl x:=by rw [ltRf];unfold lR;omega
 trans x y z h1 h2:=by rw [ltR] at *;unfold lR at *;omega
 ntrans x y z h1 h2:=by rw [ltRf] at *;unfold lR at *;omega
theorem totR (A:Int→Bool) (r:Int→Int) (x y:Nm A) (h1:ltOf (cfR A r) x y=false) (h2:ltOf (cfR A r) y x=false):x=y:=by
 rw [ltRf] at *;unfold lR at *;exact Subtype.ext (by omega)
theorem isR {A:Int→Bool} {R:List Int} (r:Int→Int) (hR:R.Pairwise (lR r)) (hA:∀ i,i ∈ R↔A i=true) (hw:∀ i,A i=true→(KL i).wf=true) {ys:List (Nm A)} (hn:(ys.map (·.1)).Nodup) (hm:∀ z,(KL z).wf=true→(z ∈ ys.map (·.1)↔A z=true)) :
  (ys.mergeSort fun x y=>!ltOf (cfR A r) y x).map (·.1)=R:=by
 refine sorted_isG (lR r) hR ?_ ?_ ?_ hA hw hn hm _ fun x y=>?_
 ·intro x y h;unfold lR at *;omega
 ·intro x y h k;unfold lR at *;omega
 ·intro x y z h k;unfold lR at *;omega
 ·rw [Bool.not_eq_true',ltRf]
theorem mem_ups {m:Tb Unit} {n i:Int}:i ∈ ups m n↔1≤i∧i≤n∧(m.a i).isSome=true:=by
 unfold ups;rw [List.mem_filter,List.mem_map]
 constructor
 ·rintro ⟨⟨j,hj,rfl⟩,h⟩
  rw [List.mem_range] at hj;exact ⟨by omega,by omega,h⟩
 ·rintro ⟨h1,h2,h3⟩
  exact ⟨⟨i.toNat-1,by rw [List.mem_range];omega,by omega⟩,h3⟩
theorem ups_pw (m:Tb Unit) (n:Int):(ups m n).Pairwise (· < ·):=by
 unfold ups;refine List.Pairwise.filter _ ?_;rw [List.pairwise_map];exact List.pairwise_lt_range.imp (fun {a b} q=>by omega)
theorem rd_3 (q:Ph):rd q=0∨rd q=1∨rd q=2:=by cases q <;> simp [rd]
theorem mem_pinnable {s:St} {f i:Int}:i ∈ s.pinnable f↔1≤i∧i≤s.last∧((s.G f).lo.a i).isSome=true∧upB s.H (s.B i).ho=true:=by
 unfold St.pinnable;simp only [List.mem_append,List.mem_filter,mem_ups,beq_iff_eq];have:=rd_3 (s.B i).q
 constructor
 ·rintro ((⟨⟨⟨a,b,c⟩,d⟩,_⟩ | ⟨⟨⟨a,b,c⟩,d⟩,_⟩) | ⟨⟨⟨a,b,c⟩,d⟩,_⟩) <;> exact ⟨a,b,c,d⟩
 ·rintro ⟨a,b,c,d⟩
  rcases this with q | q | q
  ·exact Or.inl (Or.inl ⟨⟨⟨a,b,c⟩,d⟩,q⟩)
  ·exact Or.inl (Or.inr ⟨⟨⟨a,b,c⟩,d⟩,q⟩)
  ·exact Or.inr ⟨⟨⟨a,b,c⟩,d⟩,q⟩
theorem pinnable_pw (s:St) (f:Int):(s.pinnable f).Pairwise (lR (fun i=>rd (s.B i).q)):=by
 unfold St.pinnable;have h0:=(ups_pw (s.G f).lo s.last).filter (fun i=>upB s.H (s.B i).ho);generalize (ups (s.G f).lo s.last).filter (fun i=>upB s.H (s.B i).ho)=l at h0
 have part:∀ k:Int,(l.filter (fun i=>rd (s.B i).q == k)).Pairwise (lR (fun i=>rd (s.B i).q)):=fun k=>by
  refine List.Pairwise.imp_of_mem ?_ (h0.filter _);intro a b ha hb q;rw [List.mem_filter] at ha hb;have ha':=ha.2;have hb':=hb.2;simp at ha' hb';exact Or.inr ⟨by show rd (s.B a).q=rd (s.B b).q;rw [ha',hb'],q⟩
 rw [List.pairwise_append,List.pairwise_append];refine ⟨⟨part 0,part 1,fun a ha b hb=>?_⟩,part 2,fun a ha b hb=>?_⟩
 ·rw [List.mem_filter] at ha hb
  have ha':=ha.2;have hb':=hb.2;simp at ha' hb';exact Or.inl (by show rd (s.B a).q<rd (s.B b).q;omega)
 ·rw [List.mem_append,List.mem_filter,List.mem_filter] at ha
  rw [List.mem_filter] at hb;have hb':=hb.2;simp at hb'
  rcases ha with ha | ha
  ·have ha':=ha.2
   simp at ha';exact Or.inl (by show rd (s.B a).q<rd (s.B b).q;omega)
  ·have ha':=ha.2
   simp at ha';exact Or.inl (by show rd (s.B a).q<rd (s.B b).q;omega)
theorem wpMT {α:Type} {m:Tb α} {e:Int→Value} (A:Int→Bool) (hA:∀ i,A i=(m.a i).isSome) (i:Int):(m.a i).map (fun _=>e i)=if A i=true then some (e i) else none:=by
 rw [hA];cases m.a i <;> rfl
theorem c_pinnable {w:World} {own:Nat→Option Tag} {y:Lay} {s:St} (h:Cor w own y s) (B:Bd s) {f:Int} {gf:Fu} (eg:s.fu.a f=some gf) (hbx:∀ i,(gf.lo.a i).isSome=true→∃ b,s.bx i=some b) (hn:gf.lo.n≤1073741824) :
  Calls Tryz.prog 148 #[ptr y.c,ptr (y.fb f)] w fun e w'=>∃ g c,e=.returned (.slice (some ⟨g,0,none⟩) (s.pinnable f).length c)∧w'.ownsRow w.heap.size 45 1 (.slice (some ⟨g,0,none⟩) (s.pinnable f).length c) (s.pinnable f).length ((s.pinnable f).map (fun i=>ptr (y.bx i)))∧Below w.heap.size w w':=by
 have hi0:=infoBP
 cases hi:Tryz.prog.info? 45 with
 | none=>rw [hi] at hi0;cases hi0
 | some i0 =>
 rw [hi] at hi0;simp only [Option.map_some,Option.some.injEq,Prod.mk.injEq] at hi0;obtain ⟨hz0,hz1,hz2⟩:=hi0;obtain ⟨A0,hA0⟩:∃ A:Int→Bool,A=fun i=>(gf.lo.a i).isSome:=⟨_,rfl⟩;have HA0:=Lib.hid (fun i=>congrFun hA0 i);obtain ⟨U,hU⟩:∃ U:Int→Bool,U=fun i=>upB s.H (s.B i).ho:=⟨_,rfl⟩;have HU:=Lib.hid (fun i=>congrFun hU i);obtain ⟨A,hAd⟩:∃ A:Int→Bool,A=fun i=>A0 i && U i:=⟨_,rfl⟩;have HAd:=Lib.hid (fun i=>congrFun hAd i);clear hA0 hU hAd;have hm:Mp Tryz.prog 3 w (y.fl f) (fun i=>(gf.lo.a i).map (fun _=>ptr (y.bx i))) gf.lo.n:=((h.ob (.fl f)) gf eg).2;have HBX:=Lib.hid (fun i (q:A0 i=true)=>hbx i (by rw [←HA0.out i];exact q))
 have HBD:=Lib.hid (fun i b (q:s.bx i=some b)=>B.bx i b q)
 have HR:Hid ((∀ i,i ∈ s.pinnable f↔A i=true)∧(∀ i,A i=true→(KL i).wf=true)∧(s.pinnable f).Pairwise (lR (fun i=>rd (s.B i).q))):=Lib.hid (by
  have hr:∀ i,A0 i=true→1≤i∧i≤s.last∧i<536870912:=fun i q=>by
   obtain ⟨b,hb⟩:=HBX.out i q;have:=HBD.out i b hb
   have:=B.last
   omega
  refine ⟨fun i=>?_,fun i q=>?_,pinnable_pw s f⟩
  ·rw [mem_pinnable,St.G_of eg,HAd.out i,HU.out i]
   constructor
   ·rintro ⟨_,_,q3,q4⟩
    have:A0 i=true:=by rw [HA0.out i];exact q3
    rw [this];simpa using q4
   ·intro q
    simp at q;have:=hr i q.1
    have q1:=q.1;rw [HA0.out i] at q1;exact ⟨this.1,this.2.1,q1,q.2⟩
  ·rw [HAd.out i] at q
   simp at q;have:=hr i q.1
   exact wfK (by omega) (by omega))
 clear hbx B;obtain ⟨n,hnn⟩:∃ n,gf.lo.n=n:=⟨_,rfl⟩;obtain ⟨M,hMM⟩:∃ M:Int→Option Value,M=fun i=>(gf.lo.a i).map (fun _=>ptr (y.bx i)):=⟨_,rfl⟩;rw [hnn,←hMM] at hm;rw [hnn] at hn;have HM:Hid (∀ i,M i=if A0 i=true then some (ptr (y.bx i)) else none):=Lib.hid (fun i=>by rw [hMM];exact wpMT (e:=fun i=>ptr (y.bx i)) A0 HA0.out i)
 have HBo:Hid (∀ i,A0 i=true→∃ b,s.bx i=some b∧b.id=i∧U i=upB s.H b.ho∧(s.B i).q=b.q):=Lib.hid (fun i q=>by
  obtain ⟨b,hb⟩:=HBX.out i q;exact ⟨b,hb,(HBD.out i b hb).1,by rw [HU.out i,St.B_of hb],by rw [St.B_of hb]⟩)
 obtain ⟨R,hRR⟩:∃ R,s.pinnable f=R:=⟨_,rfl⟩;rw [hRR] at HR ⊢;clear hnn hMM HBX HBD hRR HA0 HU;have q5:=h.c5;have q11:=h.g11 eg;have hmlt:=hm.lt;have h0:=h;clear h
 go_enter Tryz.func148,Tryz.ntmps148
 go_upto_region 2 with (first
  | (at_len;refine wpList_mp_len rfl (.tmp 11) 57 rfl 3 45 Tryz.underlying57 _ _ n rfl hm ?_)
  | (at_make;refine wpList_make_row rfl (.const (.int .i64 0)) (.tmp 12) 73 rfl 45 i0 (.pointer none) Tryz.underlying73 hi hz0 hz1 rfl _ _ 0 (n:Int) 0 n rfl rfl rfl rfl (by omega) (by rw [hz2];omega) (by omega) ?_;intro w3 HG3 hg3 hs3))
 have own3:w3.ownsRow w.heap.size 45 1 (.slice (some ⟨w.heap.size,0,none⟩) 0 n) 0 []:=own_made (cs:=[]) (z:=.pointer none) rfl (by omega) (by omega) (by simpa [splice] using HG3) (Nat.le_refl _)
 have h3:=hm.kept (Only.grownN (S:=fun _=>False) hg3) (fun q=>q);have b3:Below w.heap.size w w3:=grown_below hg3;have r11:=(h0.below b3).g11 eg;clear hm HG3 q5 q11
 go_upto_region 3 with (first
  | (at_range;refine wpList_rngi rfl (.tmp 17) 57 rfl 3 45 Tryz.underlying3 Tryz.underlying57 (y.fl f) _ n rfl h3 ?_;intro w4 hrg4 hg4))
 have own4:=own_below own3 (grown_below hg4) (Nat.le_refl _);have b4:Below w.heap.size w w4:=b3.trans ((grown_below hg4).mono b3.size);obtain ⟨rb,hrb⟩:∃ rb,w3.heap.size=rb:=⟨_,rfl⟩;have HNE:=Lib.hid (show w.heap.size<rb by omega)
 rw [hrb] at hrg4;rw [hrb];obtain ⟨mb,hmb⟩:∃ mb,y.fl f=mb:=⟨_,rfl⟩;rw [hmb] at hrg4 hmlt;rw [hmb];have H0:=Lib.hid h0;clear hrb h3 own3 hg4 hg3 hs3 b3 r11 hmb h0
 go_frame
 go_loopg [5] n (fun gk v5 wr=>∃ (left:Int→Bool) (seen:List (Nm A0)) (ys:List (Nm A)) (g cp:Nat),v5=.slice (some ⟨g,0,none⟩) ys.length cp∧Hid (wr.ownsRow w.heap.size 45 1 (.slice (some ⟨g,0,none⟩) ys.length cp) ys.length (ys.map (encN A y.bx)))∧Ri Tryz.prog 3 wr mb rb M n left gk∧Hid (Tkn A0 left seen)∧Hid (ys.map (·.1)=(seen.map (·.1)).filter U)∧Hid (ys.length+gk≤n)∧Hid (g≠rb)∧Below w.heap.size w wr)
 case atStart=>exact ⟨_,[],[],w.heap.size,n,rfl,Lib.hid own4,hrg4,Lib.hid (Tkn.start HM.out),Lib.hid rfl,Lib.hid (by simp),Lib.hid (by have:=HNE.out;omega),b4⟩
 case round =>
  clear hrg4 own4 b4;obtain ⟨left,seen,ys,g,cp,rfl,HO,hrg,HT,HF,HL,HG,bz⟩:=hrel;go_wp2_with (at_next;refine wpList_nxti rfl (.tmp 18) rfl 3 Tryz.underlying3 mb rb M n left gk rfl hrg ?_ ?_)
  ·intro hdone
   have hall:=HT.out.all hdone;have hnd:(ys.map (·.1)).Nodup:=by rw [HF.out];exact HT.out.1.filter _
   have hmem:∀ z,(KL z).wf=true→(z ∈ ys.map (·.1)↔A z=true):=fun z hz=>by
    rw [HF.out,List.mem_filter,hall z hz,HAd.out z];simp
   have hI:=isR (fun i=>rd (s.B i).q) HR.out.2.2 HR.out.1 HR.out.2.1 hnd hmem;have hA0:∀ x:Nm A,A0 x.1=true:=fun x=>by have:=x.2;rw [HAd.out] at this;simp at this;exact this.1
   have eg':∀ args w,(callFunc 164 args).run Tryz.prog w=.ok (.enter 164 args) w:=enters_of Tryz.func164 (by kernel_rfl) rfl
   have hown:=own_cap HO.out
   have hcmp:∀ W,wr.grownBy W (some g)→∀ x z:Nm A,Calls Tryz.prog 164 #[ptr (y.bx x.1),ptr (y.bx z.1)] W fun e w'=>e=.returned (.int .i64 (cfR A (fun i=>rd (s.B i).q) x z))∧Grw W w':=by
    intro W hW x z;have hc:Cor W own y s:=H0.out.below (bz.trans ⟨hW.os,hW.tape,hW.output,hW.size,fun j hj=>hW.block j (by have:=bz.size;omega) (by simp;omega)⟩)
    obtain ⟨b,hb,hbi,_,hbq⟩:=HBo.out x.1 (hA0 x);obtain ⟨c,hc',hci,_,hcq⟩:=HBo.out z.1 (hA0 z);have:=c_pinF W (y.bx x.1) (y.bx z.1) x.1 z.1 b c ((hc.ob (.bx x.1)) b hb).2 ((hc.ob (.bx z.1)) c hc').2 hbi hci
    rw [←hbq,←hcq] at this;exact this
   have ks:=k_sortG ys rfl (by have:=HL.out;omega) HO.out (cfR A (fun i=>rd (s.B i).q)) (swoR A _) (totR A _) eg' hcmp hI
   clear hcmp hI hmem hnd hall hA0 eg';go_wp2_with fail
   with_reducible refine ks.mono ?_
   rintro e w5 ⟨rfl,own5,g5,hlen⟩;have b5:Below w.heap.size w w5:=bz.trans ⟨g5.os,g5.tape,g5.output,g5.size,fun j hj=>g5.block j (by have:=bz.size;omega) (by simp;omega)⟩
   clear ks HO hrg bz g5;go_wp2_with fail
   go_ret
   rw [←hlen] at own5;exact ⟨g,cp,by rw [hlen];rfl,own5,b5⟩
  ·intro x v w5 g1 hg1 hwx hlx hMx hrg5 hg5 hen
   obtain ⟨hAx,HT'⟩:=HT.out.step hwx hlx;have hv:v=ptr (y.bx x):=by rw [HM.out x,if_pos hAx] at hMx;injection hMx with hMx;exact hMx.symm
   subst hv;have own5:=own_off HO.out hg5 HG.out;have hl5:=HL.out;have b5:Below w.heap.size w w5:=bz.trans ⟨hg5.os,hg5.tape,hg5.output,hg5.size,fun j hj=>hg5.block j (by have:=bz.size;omega) (by have:=HNE.out;simp;omega)⟩
   have hs5:=b5.size;obtain ⟨b,hb,hbi,hUx,_⟩:=HBo.out x hAx;have hc5:=H0.out.below b5;have q5:=hc5.c5;have q2:=hc5.b2 hb;have HB2:=Lib.hid hb;have ku:∀ j,Calls Tryz.prog 113 #[ptr y.h,.int .i64 b.ho] (w5.drewN j) fun e w'=>e=.returned (.bool (upB s.H b.ho))∧w'=w5.drewN j:=fun j=>quiet_eq (k_up (hc5.drewN j) b.ho);rw [←hUx] at ku;have HG1:=Lib.hid hg1;have HUX:=Lib.hid hUx;have HAX:=Lib.hid hAx;clear hrg HO hg5 bz HT hc5 hbi hUx hg1 hwx hlx hMx hb
   cases hu:U x with
   | false =>
    rw [hu] at ku;have KU:=Lib.hid ku;have HUU:=Lib.hid hu;clear ku hu;go_wp2_with fail
    go_quiet ((go_at_call 113;exact Calls.quiet_of_same (KU.out _)))
    go_wp2_with fail
    have HFx:Hid (ys.map (·.1)=((seen ++ [(⟨x,HAX.out⟩:Nm A0)]).map (·.1)).filter U):=Lib.hid (by rw [List.map_append,List.filter_append,←HF.out];simp [HUU.out])
    go_roundg g1
    case measure=>exact HG1.out
    case rel=>exact ⟨_,seen ++ [(⟨x,HAX.out⟩:Nm A0)],ys,g,cp,rfl,Lib.hid own5,hrg5,Lib.hid HT',HFx,Lib.hid (by have:=HL.out;have:=HG1.out;omega),HG,below_drewN b5 _⟩
   | true =>
    rw [hu] at ku;have KU:=Lib.hid ku;have HUU:=Lib.hid hu;clear ku hu;go_wp2_with fail
    go_quiet ((go_at_call 113;exact Calls.quiet_of_same (KU.out _)))
    have ownD:(w5.drewN nq).ownsRow w.heap.size 45 1 (.slice (some ⟨g,0,none⟩) ys.length cp) ys.length (ys.map (encN A y.bx)):=own5;have hrgD:Ri Tryz.prog 3 (w5.drewN nq) mb rb M n (fun z=>left z && !(z == x)) g1:=hrg5;have bD:Below w.heap.size w (w5.drewN nq):=below_drewN b5 _;have hsD:=bD.size;clear own5 hrg5 b5 hs5 q5 q2 hen;generalize w5.drewN nq=w6 at ownD hrgD bD hsD ⊢;go_wp2_with (at_builtin;refine wpList_app1 rfl (.tmp 32) (.tmp 34) 73 rfl w.heap.size 45 i0 (.pointer none) 8 Tryz.underlying73 hi hz0 hz1 hz2 rfl (.slice (some ⟨g,0,none⟩) ys.length cp) ys.length (ys.map (encN A y.bx)) rfl ownD (ptr (y.bx x)) _ rfl _ rfl rfl (by omega) (by omega) hsD ?_;intro g' cp' w7 own7 hg7 hat7 hlt7)
    have hAA:A x=true:=by rw [HAd.out x,HAX.out,HUU.out];rfl
    have hgw:=(own_cap ownD).2.2;have hg7':w6.grownBy w7 (some g):=hg7;have hat:g=g'∨w6.heap.size≤g':=hat7.imp (fun q=>by have q':some g=some g':=q;injection q') id
    have hrg7:Ri Tryz.prog 3 w7 mb rb M n (fun z=>left z && !(z == x)) g1:=hrgD.kept (Only.grown (S:=fun j=>j=g) hg7' (Or.inl rfl)) (fun q=>by have q':mb=g:=q;omega) (fun q=>HG.out q.symm)
    have b7:Below w.heap.size w w7:=bD.trans ⟨hg7'.os,hg7'.tape,hg7'.output,hg7'.size,fun j hj=>hg7'.block j (by omega) (by simp;omega)⟩
    have HO7:Hid (w7.ownsRow w.heap.size 45 1 (.slice (some ⟨g',0,none⟩) (ys ++ [(⟨x,hAA⟩:Nm A)]).length cp') (ys ++ [(⟨x,hAA⟩:Nm A)]).length ((ys ++ [(⟨x,hAA⟩:Nm A)]).map (encN A y.bx))):=Lib.hid (by simpa using own7)
    have hlr:rb<w6.heap.size:=hrgD.ne.2
    have hne:g'≠rb:=by
     rcases hat with q | q
     ·rw [←q];exact HG.out
     ·omega
    have HNE':=Lib.hid hne;have HL5:=Lib.hid hl5;have HAA:=Lib.hid hAA;have HFx:Hid ((ys ++ [(⟨x,hAA⟩:Nm A)]).map (·.1)=((seen ++ [(⟨x,HAX.out⟩:Nm A0)]).map (·.1)).filter U):=Lib.hid (by rw [List.map_append,List.map_append,List.filter_append,←HF.out];simp [HUU.out])
    clear ownD hrgD hg7 hg7' hat7 hat own7 hgw bD hsD hl5 hne hlr hlt7;go_roundg g1
    case measure=>exact HG1.out
    case rel=>exact ⟨_,seen ++ [(⟨x,HAX.out⟩:Nm A0)],ys ++ [(⟨x,hAA⟩:Nm A)],g',cp',by simp,HO7,hrg7,Lib.hid HT',HFx,Lib.hid (by have:=HL5.out;have:=HG1.out;simp;omega),HNE',b7⟩
end Go.Proofs.YthdengocipfgiaaGreat.W.C
