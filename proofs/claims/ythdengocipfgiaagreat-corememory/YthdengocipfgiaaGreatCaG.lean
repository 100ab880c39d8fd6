import Derived.Test.YthdengocipfgiaaGreatCaD
import Derived.Test.YthdengocipfgiaaGreatCaA
import Derived.Test.YthdengocipfgiaaGreatRows
import Derived.Test.YthdengocipfgiaaGreatCaF
import Derived.Test.YthdengocipfgiaaGreatCaE
/- A part of what core's laws stand on. -/
set_option linter.unusedVariables false
set_option linter.unusedSimpArgs false
set_option maxRecDepth 100000
set_option maxHeartbeats 1600000
namespace Go.Proofs.YthdengocipfgiaaGreat.W
open Go.RowKit
abbrev clip (x:Int):Int:=clampI x 0 1099511627776
theorem clip_range (x:Int):0≤clip x∧clip x≤1099511627776:=by unfold clip clampI;omega
def ws (n:Int):Int→List Int→Int
 | _,[]=>0
 | i,x :: t=>clip x*(3*i-(n-1))+ws n (i+1) t
theorem ws_snoc (n:Int):∀ (i:Int) (l:List Int) (x:Int),ws n i (l ++ [x])=ws n i l+clip x*(3*(i+l.length)-(n-1))
 | i,[],x=>by simp [ws]
 | i,y :: t,x=>by
  rw [List.cons_append];unfold ws;rw [ws_snoc n (i+1) t x];simp only [List.length_cons];rw [show ((t.length+1:Nat):Int)=(t.length:Int)+1 by omega,show i+1+(t.length:Int)=i+((t.length:Int)+1) by omega]
  omega
theorem weigh (x w:Int) (h0:-21≤w) (h1:w≤21):-23089744183296≤clip x*w∧clip x*w≤23089744183296:=by
 obtain ⟨c0,c1⟩:=clip_range x;generalize clip x=c at *;have a1:c*w≤c*21:=Int.mul_le_mul_of_nonneg_left h1 c0;have a2:c*(-21)≤c*w:=Int.mul_le_mul_of_nonneg_left h0 c0;omega
def behI (l:List Int):Int:=clip (fracI (ws l.length 0 l) 2 ((l.length:Int)*((l.length:Int)-1)))
def nextL:List Int→Int
 | []=>0
 | [x]=>clip x
 | l=>behI l
def nextI (xs:List Int):Int:=nextL (last8 xs)
theorem nextL_two {l:List Int} (h:2≤l.length):nextL l=behI l:=by
 match l,h with
 | [],h=>simp at h
 | [x],h=>simp at h
 | x :: y :: t,_=>rfl
theorem nextL_range (l:List Int):0≤nextL l∧nextL l≤1099511627776:=by
 match l with
 | []=>exact ⟨by simp [nextL],by simp [nextL]⟩
 | [x]=>exact clip_range x
 | x :: y :: t=>exact clip_range _
theorem next_range (xs:List Int):0≤nextI xs∧nextI xs≤1099511627776:=nextL_range _
theorem within_any (x:Int) (w:World):Calls Tryz.prog 186 #[.int .i64 x] w fun e w'=>e=.returned (.int .i64 (clip x))∧w=w':=by
 go_enter Tryz.func186,Tryz.ntmps186
 go_wp2_with fail
 refine (clamp_any _ _ _ _).mono ?_;rintro e w' ⟨rfl,rfl⟩;go_wp2_with fail
 go_ret
 exact ⟨rfl,rfl⟩
theorem behind_any (A:Option Addr) (B k c:Nat) (xs:List Int) (w:World) (hk:k=xs.length) (h2:2≤k) (h8:k≤8) (hA:Lies w B A (ints xs)) :
  Calls Tryz.prog 187 #[.slice A k c] w fun e w'=>e=.returned (.int .i64 (behI xs))∧∃ q,w'=w.drewN q:=by
 have HK:=Lib.hid hk;clear hk
 go_enter Tryz.func187,Tryz.ntmps187
 go_wp2_with fail
 go_loopg [4,11] k (fun gk vs vi wr=>∃ i:Nat,∃ s:Int,vi=.int .i64 (i:Int)∧vs=.int .i64 s∧i+gk=k∧s=ws k 0 (xs.take i)∧-23089744183296*(i:Int)≤s∧s≤23089744183296*(i:Int)∧∃ q,wr=w.drewN q)
 case atStart=>exact ⟨0,0,rfl,rfl,by omega,rfl,by omega,by omega,0,rfl⟩
 case round =>
  obtain ⟨i,s,rfl,rfl,hik,hs,hs0,hs1,q,hq⟩:=hrel;have HQ:=Lib.hid hq;have HIK:=Lib.hid hik;have HS:=Lib.hid hs
  by_cases hi:i<k
  ·obtain ⟨ad,x,rfl,hblk,hx,hcx⟩:=hA.int (show i<xs.length by rw [←HK.out];exact hi)
   have hcx':wr.cell? (ad.add i)=some (.int .i64 x):=by rw [hq];exact hcx
   have HX:=Lib.hid hx;clear hik hcx hx hq hs;have hp:=weigh x (3*(i:Int)-((k:Int)-1)) (by omega) (by omega)
   obtain ⟨cx,hcl⟩:∃ cx,clip x=cx:=⟨_,rfl⟩;have HC:=Lib.hid hcl;rw [hcl] at hp;obtain ⟨hp0,hp1⟩:=hp;clear hcl;go_wp2_with fail
   refine (within_any _ _).mono ?_;rintro e w' ⟨rfl,rfl⟩;rw [HC.out];go_wp2_with fail
   go_roundg (gk-1)
   case measure=>have:=HIK.out;omega
   case rel =>
    refine ⟨i+1,s+cx*(3*(i:Int)-((k:Int)-1)),by go_num,rfl,by have:=HIK.out;omega,?_,by omega,by omega,q,HQ.out⟩
    rw [take_snoc HX.out,ws_snoc,←HS.out,HC.out];have hl:(xs.take i).length=i:=by simp;rw [←HK.out];omega
    rw [hl];simp
  ·obtain rfl:i=k:=by omega
   rw [List.take_of_length_le (by rw [HK.out];exact Nat.le_refl _)] at hs HS
   have hd:-1≤(i:Int)*((i:Int)-1)∧(i:Int)*((i:Int)-1)≤56:=by
    have h7:i=2∨i=3∨i=4∨i=5∨i=6∨i=7∨i=8:=by omega
    rcases h7 with h | h | h | h | h | h | h <;> rw [h] <;> omega
   obtain ⟨hd0,hd1⟩:=hd;clear hik HIK hq hs;go_wp2_with fail
   refine (frac_any _ _ _ ⟨by omega,by omega⟩ ⟨by omega,by omega⟩ ⟨by omega,by omega⟩ _).mono ?_
   rintro e w' ⟨rfl,j,rfl⟩;go_wp2_with fail
   refine (within_any _ _).mono ?_;rintro e w' ⟨rfl,rfl⟩;go_wp2_with fail
   go_ret
   refine ⟨ret_int ?_,q+j,by rw [HQ.out];exact drewN_two _ _ _⟩
   unfold behI;rw [←HK.out,HS.out]
theorem add_zero (a:Addr):a.add 0=a:=by simp [Addr.add]
theorem lies_last {w:World} {B k:Nat} {A A':Option Addr} {xs:List Int} (hA:Lies w B A (ints xs)) (hk:k=xs.length) (h:A'=A.map (·.add (k-8))∨k≤k-8):Lies w B A' (ints (last8 xs)):=by
 have e:ints (last8 xs)=(ints xs).drop (k-8):=by simp [last8,ints,hk,List.map_drop]
 rw [e];refine hA.drop _ _ ?_;intro hlt;simp [ints] at hlt
 rcases h with h | h
 ·exact h
 ·omega
theorem first_of {k:Nat} {ad:Addr} {A':Option Addr} (h1:k=1) (h:A'=(some ad).map (·.add (k-8))∨k≤k-8):A'=some ad:=by
 rcases h with h | h
 ·rw [h,show k-8=0 by omega];simp [add_zero]
 ·omega
theorem two_up {k m:Nat} (h:k-(k-8)=m) (h0:¬ k=0) (h1:¬ k=1):2≤m∧m≤8∧((m:Int) == 0)=false∧((m:Int) == 1)=false:=by
 refine ⟨by omega,by omega,?_,?_⟩ <;> simp <;> omega
theorem last8_len' {k m:Nat} {xs:List Int} (hk:k=xs.length) (hm:k-(k-8)=m):m=(last8 xs).length:=by rw [last8_len];omega
theorem next_any (A:Option Addr) (B k c:Nat) (xs:List Int) (w:World) (hk:k=xs.length) (hc:k≤c) (hm:c≤9223372036854775807) (hA:Lies w B A (ints xs)) :
  Calls Tryz.prog 171 #[.slice A k c] w fun e w'=>e=.returned (.int .i64 (nextI xs))∧∃ q,w'=w.drewN q:=by
 obtain ⟨i,hi⟩:=Option.isSome_iff_exists.1 (show (Tryz.prog.info? 2).isSome=true by kernel_rfl)
 have hs:i.size=1:=by have h:=infoI;rw [hi] at h;simp at h;exact h.2.1
 have hmx:((k-8:Nat):Int)=max (0:Int) ((k:Int)-8):=by omega
 have HM:=Lib.hid hmx;have HK:=Lib.hid hk;have hi8:(-8:Int)≤(k:Int)-8∧(k:Int)-8≤9223372036854775807:=by omega
 clear hmx hk
 by_cases h0:k=0
 ·have e0:nextI xs=0:=by obtain rfl:xs=[]:=List.eq_nil_of_length_eq_zero (by rw [←HK.out];exact h0);rfl
  have E0:=Lib.hid e0;have H0:=Lib.hid h0;clear e0 h0
  go_enter Tryz.func171,Tryz.ntmps171
  go_wp2_with (first
   | (with_reducible refine wpList_max_to rfl (.const (.int .i64 0)) (.tmp 7) 3 3 rfl .i64 .i64 0 ((k:Int)-8) ((k-8:Nat):Int) rfl rfl HM.out ?_)
   | (with_reducible refine wpList_from rfl (.tmp 4) (.tmp 8) 217 rfl 2 i Tryz.underlying217 hi hs A k c (k-8) .i64 rfl rfl (by omega) hc ?_;intro A' HA';rw [show k-(k-8)=0 by have:=H0.out;omega]))
  go_ret
  exact ⟨ret_int E0.out.symm,0,rfl⟩
 by_cases h1:k=1
 ·obtain ⟨x,rfl⟩:∃ x,xs=[x]:=by
   have h:=HK.out;rw [h1] at h
   match xs,h with
   | [x],_=>exact ⟨x,rfl⟩
  obtain ⟨ad,y,rfl,hb,hx,hcx⟩:=hA.int (i:=0) (by simp)
  obtain rfl:y=x:=by simpa using hx.symm
  rw [add_zero] at hcx;have e0:nextI [y]=clip y:=rfl;have E0:=Lib.hid e0;have H1:=Lib.hid h1;clear e0 hx h0 h1
  go_enter Tryz.func171,Tryz.ntmps171
  go_wp2_with (first
   | (with_reducible refine wpList_max_to rfl (.const (.int .i64 0)) (.tmp 7) 3 3 rfl .i64 .i64 0 ((k:Int)-8) ((k-8:Nat):Int) rfl rfl HM.out ?_)
   | (with_reducible refine wpList_from rfl (.tmp 4) (.tmp 8) 217 rfl 2 i Tryz.underlying217 hi hs (some ad) k c (k-8) .i64 rfl rfl (by omega) hc ?_;intro A' HA';obtain rfl:=first_of H1.out HA'.out;rw [show k-(k-8)=1 by have:=H1.out;omega]))
  refine (within_any _ _).mono ?_;rintro e w' ⟨rfl,rfl⟩;go_wp2_with fail
  go_ret
  exact ⟨ret_int E0.out.symm,0,rfl⟩
 ·have e0:nextI xs=behI (last8 xs):=nextL_two (by rw [last8_len,←HK.out];omega)
  have E0:=Lib.hid e0;clear e0
  go_enter Tryz.func171,Tryz.ntmps171
  go_wp2_with (first
   | (with_reducible refine wpList_max_to rfl (.const (.int .i64 0)) (.tmp 7) 3 3 rfl .i64 .i64 0 ((k:Int)-8) ((k-8:Nat):Int) rfl rfl HM.out ?_)
   | (with_reducible refine wpList_from rfl (.tmp 4) (.tmp 8) 217 rfl 2 i Tryz.underlying217 hi hs A k c (k-8) .i64 rfl rfl (by omega) hc ?_;intro A' HA';have hL:=lies_last hA HK.out HA'.out;obtain ⟨m,hm0⟩:∃ m,k-(k-8)=m:=⟨_,rfl⟩;have HN:=Lib.hid (last8_len' HK.out hm0);have hmm:2≤m∧m≤8∧((m:Int) == 0)=false∧((m:Int) == 1)=false:=two_up hm0 h0 h1;obtain ⟨hm2,hm8,hb0,hb1⟩:=hmm;rw [hm0];clear hm0))
  refine (behind_any A' B m _ _ _ HN.out hm2 hm8 hL).mono ?_;rintro e w' ⟨rfl,q,rfl⟩;go_wp2_with fail
  go_ret
  exact ⟨ret_int E0.out.symm,q,rfl⟩
abbrev Win (h p e:Int):Value:=.agg #[.int .i64 h,.int .i64 p,.int .i64 e]
def preN (n:Int):Int:=n*85 / 100
def endN (n:Int):Int:=max ((n*115+99) / 100) (n*85 / 100+1)
def preC (a:Nat):Int:=(a:Int)*9 / 10
def endC (b:Nat):Int:=((b:Int)*11+20) / 10
def win (F:Nat→Nat) (o:Nat) (ys:List Int):Value :=
 if tot F+o<4 then Win 0 0 10 else if tot F+o<2*o then Win 2 (preN (nextI ys)) (endN (nextI ys)) else if spreadB F=true then Win 1 (preC (cutN F 5)) (endC (cutN F 99)) else Win 0 0 10
theorem win_few {F:Nat→Nat} {o:Nat} {ys:List Int} (h:tot F+o<4):win F o ys=Win 0 0 10:=by unfold win;rw [if_pos h]
theorem win_next {F:Nat→Nat} {o:Nat} {ys:List Int} (h:4≤tot F+o) (h2:tot F+o<2*o):win F o ys=Win 2 (preN (nextI ys)) (endN (nextI ys)):=by unfold win;rw [if_neg (by omega),if_pos h2]
theorem win_hist {F:Nat→Nat} {o:Nat} {ys:List Int} (h:4≤tot F+o) (h2:2*o≤tot F+o) (h3:spreadB F=true):win F o ys=Win 1 (preC (cutN F 5)) (endC (cutN F 99)):=by unfold win;rw [if_neg (by omega),if_neg (by omega),if_pos h3]
theorem win_not {F:Nat→Nat} {o:Nat} {ys:List Int} (h:4≤tot F+o) (h2:2*o≤tot F+o) (h3:spreadB F=false):win F o ys=Win 0 0 10:=by unfold win;rw [if_neg (by omega),if_neg (by omega),if_neg (by rw [h3];simp)]
theorem frac85 {n:Int} (h0:0≤n) (h1:n≤1099511627776):fracI n 85 100=preN n:=by
 unfold fracI preN;rw [if_neg (by unfold Bad;omega)];omega
theorem frac115 {n:Int} (h0:0≤n) (h1:n≤1099511627776):fracUpI n 115 100=(n*115+99) / 100:=by
 unfold fracUpI;rw [if_neg (by unfold Bad;omega)];split <;> omega
theorem frac9 {a:Nat} (h:a<240):fracI (a:Int) 9 10=preC a:=by
 unfold fracI preC;rw [if_neg (by unfold Bad;omega)];omega
theorem frac11 {b:Nat} (h:b<240):fracUpI ((b:Int)+1) 11 10=endC b:=by
 unfold fracUpI endC;rw [if_neg (by unfold Bad;omega)];split <;> omega
theorem cut_lt (F:Nat→Nat) (P:Nat):cutN F P<240:=by
 unfold cutN
 cases hq:(List.range 240).find? (fun j=>decide (okC F P j)) with
 | none=>simp
 | some c=>have:=((List.find?_range_eq_some (n:=240) (i:=c)).1 hq).2.1;simpa using this
theorem win_form (F:Nat→Nat) (o:Nat) (ys:List Int):∃ h p e:Int,win F o ys=Win h p e∧0≤p∧p<e∧e≤1264438371943:=by
 obtain ⟨n0,n1⟩:=next_range ys;have c1:=cut_lt F 99;have c2:=cut_lt F 5
 by_cases h1:tot F+o<4
 ·exact ⟨0,0,10,win_few h1,by omega,by omega,by omega⟩
 by_cases h2:tot F+o<2*o
 ·refine ⟨_,_,_,win_next (by omega) h2,?_,?_,?_⟩ <;> (try unfold preN) <;> (try unfold endN) <;> omega
 by_cases h3:spreadB F=true
 ·by_cases h0:0<tot F
  ·refine ⟨_,_,_,win_hist (by omega) (by omega) h3,?_,?_,?_⟩
   ·unfold preC;omega
   ·have hk:cutN F 5≤cutN F 99:=by
     obtain ⟨a1,a2,a3⟩:=cutN_ok (F:=F) (P:=5) h0 (by omega)
     obtain ⟨b1,b2,b3⟩:=cutN_ok (F:=F) (P:=99) h0 (by omega)
     rcases Nat.lt_or_ge (cutN F 99) (cutN F 5) with q | q
     ·exact absurd ⟨b1.1,by have:=b1.2;omega⟩ (a3 _ q)
     ·exact q
    unfold preC endC;omega
   ·unfold endC;omega
  ·unfold spreadB at h3;simp at h3;omega
 ·exact ⟨0,0,10,win_not (by omega) (by omega) (by simpa using h3),by omega,by omega,by omega⟩
theorem wpList_store_agg {P:Program} {w:World} {ops:Array Oper} {rest:List Oper} {o:Oper} {a:Act} {Q:Exit→Act→World→Prop} (hgd:o.guard=none) (ty:TypeId) (x y:Operand) (ho:o.op=.store ty x y)
  (g:Nat) (cells:Array Value) (hx:a.eval x=.pointer (some ⟨g,0,none⟩)) (hy:a.eval y=.agg cells)
  (t:TypeId) (old:Array Value) (hg:w.heap[g]?=some (.cells old t (0,0))) (hi:(P.info? ty).map (·.size)=some cells.size)
  (hold:old.size=cells.size) (h1:cells.all (·.oneCell')=true)
  (h:∀ w',Hid (w'.heap[g]?=some (.cells cells t (0,0)))→w.grownBy w' (some g)→wpList P ops Q rest (a.put o.dst undef) w'):wpList P ops Q (o :: rest) a w:=by
 refine wpList_store_row hgd ty x y ho g cells hx hy t old hg hi hold h1 ?_;exact h _ (show _=_ from setRow_heap w g _ _ t _ hg) ⟨rfl,rfl,rfl,by simp [World.setRow],fun k _ hk=>setRow_other w g k _ (by intro e;exact hk (by rw [e]))⟩
theorem sizeWin:(Tryz.prog.info? 200).map (·.size)=some 3:=by kernel_rfl
theorem wpList_store_win {w:World} {ops:Array Oper} {rest:List Oper} {o:Oper} {a:Act} {Q:Exit→Act→World→Prop} (hgd:o.guard=none) (x y:Operand) (ho:o.op=.store 200 x y)
  (g:Nat) (h p e:Int) (hx:a.eval x=.pointer (some ⟨g,0,none⟩)) (hy:a.eval y=Win h p e) (i j k:Int)
  (HG:Hid (w.heap[g]?=some (.cells #[.int .i64 i,.int .i64 j,.int .i64 k] 200 (0,0))))
  (hn:∀ w',Hid (w'.heap[g]?=some (.cells #[.int .i64 h,.int .i64 p,.int .i64 e] 200 (0,0)))→w.grownBy w' (some g)→wpList Tryz.prog ops Q rest (a.put o.dst undef) w'):wpList Tryz.prog ops Q (o :: rest) a w :=
 wpList_store_agg hgd _ x y ho g _ hx hy _ _ HG.out sizeWin rfl (by simp [Value.oneCell']) hn
theorem ret_win {g:Nat} {h p e:Int} {w:World} {fn:Func} {t:Tmp} {tmps:Array Value} (hf:fn.results=#[.cell t 200]) (ht:tmps.getD t undef=.pointer (some ⟨g,0,none⟩))
  (HG:Hid (w.heap[g]?=some (.cells #[.int .i64 h,.int .i64 p,.int .i64 e] 200 (0,0)))):(results fn tmps).run Tryz.prog w=.ok (Win h p e) w :=
 results_cell_row hf tmps w g _ _ _ _ ht HG.out Tryz.underlying200 rfl sizeWin
theorem fixed_any (w:World):Calls Tryz.prog 169 #[] w fun e w'=>e=.returned (Win 0 0 10)∧Below w.heap.size w w':=by
 go_enter Tryz.func169,Tryz.ntmps169
 go_wp2
 exact bodyPost_ret (v:=Win 0 0 10) (by simp [results,Tryz.results169,go_sem]) rfl ⟨rfl,(Below.refl _ _).alloc (Nat.le_refl _) _⟩
def NewW (w w1:World):Prop:=w1.heap[w.heap.size]?=some (.cells #[.int .i64 0,.int .i64 0,.int .i64 0] 200 (0,0))∧Below w.heap.size w w1
theorem newW (w:World):NewW w (w.alloc (.cells #[.int .i64 0,.int .i64 0,.int .i64 0] 200)):=⟨heap_alloc_new w _,(Below.refl _ _).alloc (Nat.le_refl _) _⟩
theorem NewW.drewN {w w1:World} (h:NewW w w1) (n:Nat):NewW w (w1.drewN n):=⟨h.1,below_drewN h.2 n⟩
theorem NewW.lt {w w1:World} (h:NewW w w1):w.heap.size<w1.heap.size:=lt_of_row h.1
theorem NewW.below {w w1 w2:World} (h:NewW w w1) (hb:Below w1.heap.size w1 w2):NewW w w2:=⟨by rw [hb.block _ h.lt];exact h.1,h.2.trans (hb.mono h.2.size)⟩
theorem NewW.done {w w1 w2:World} (h:NewW w w1) (hg:w1.grownBy w2 (some w.heap.size)):Below w.heap.size w w2:=below_row h.2 (Nat.le_refl _) hg h.2.size
theorem byNext_any (n:Int) (h0:0≤n) (h1:n≤1099511627776) (w:World):Calls Tryz.prog 170 #[.int .i64 n] w fun e w'=>e=.returned (Win 2 (preN n) (endN n))∧Below w.heap.size w w':=by
 have hp0:0≤preN n:=by unfold preN;omega
 have hp1:preN n≤1099511627776:=by unfold preN;omega
 have E1:=Lib.hid (frac85 h0 h1);have E2:=Lib.hid (frac115 h0 h1);have hE:endN n=max ((n*115+99) / 100) (preN n+1):=rfl;obtain ⟨p,hp⟩:∃ p,preN n=p:=⟨_,rfl⟩;obtain ⟨q,hq⟩:∃ q,(n*115+99) / 100=q:=⟨_,rfl⟩;rw [hp] at hp0 hp1 hE E1;rw [hq] at hE E2;have hS:sat (p+1)=p+1:=by unfold sat;split <;> (try split) <;> omega
 have HS:=Lib.hid hS;have HP:=Lib.hid hp;have HE:=Lib.hid hE;clear hp hq hE hS
 go_enter Tryz.func170,Tryz.ntmps170
 go_wp2_with fail
 have hN:=newW w;generalize w.alloc _=w1 at hN ⊢;refine (frac_any _ _ _ ⟨by omega,by omega⟩ ⟨by omega,by omega⟩ ⟨by omega,by omega⟩ _).mono ?_
 rintro e w' ⟨rfl,j,rfl⟩;rw [E1.out];have hN1:=hN.drewN j;generalize w1.drewN j=w2 at hN1 ⊢;clear hN;go_wp2_with fail
 refine (fracUp_any _ _ _ ⟨by omega,by omega⟩ ⟨by omega,by omega⟩ ⟨by omega,by omega⟩ _).mono ?_
 rintro e w' ⟨rfl,j,rfl⟩;rw [E2.out];have hN2:=hN1.drewN j;generalize w2.drewN j=w3 at hN2 ⊢;clear hN1;go_wp2_with fail
 refine (add_any _ _ ⟨by omega,by omega⟩ ⟨by omega,by omega⟩ _).mono ?_
 rintro e w' ⟨rfl,rfl⟩;rw [HS.out];obtain ⟨m,hm⟩:∃ m,m=max q (p+1):=⟨_,rfl⟩;have HM:=Lib.hid hm;clear hm;have HW:=Lib.hid hN2.1
 go_wp2_with (first
  | (with_reducible refine wpList_max_to rfl (.tmp 8) (.tmp 10) 2 2 rfl .i64 .i64 q (p+1) m rfl rfl HM.out ?_)
  | (with_reducible refine wpList_store_win rfl (.tmp 2) (.tmp 12) rfl w.heap.size 2 p m rfl rfl 0 0 0 HW ?_;intro w4 HG hg4))
 refine bodyPost_ret (ret_win (fn:=Tryz.f170) rfl rfl HG) rfl ⟨?_,hN2.done hg4⟩;rw [HP.out,HE.out,HM.out]
theorem byCounts_any (r o:Nat) (F:Nat→Nat) (w:World) (h:Hs w r F o):Calls Tryz.prog 174 #[.pointer (some ⟨r,0,none⟩)] w fun e w'=>e=.returned (Win 1 (preC (cutN F 5)) (endC (cutN F 99)))∧Below w.heap.size w w':=by
 have c5:clampP 5=5:=by decide
 have c99:clampP 99=99:=by decide
 obtain ⟨a,ha⟩:∃ a,cutN F 5=a:=⟨_,rfl⟩;obtain ⟨b,hb⟩:∃ b,cutN F 99=b:=⟨_,rfl⟩;have ha1:a<240:=by rw [←ha];exact cut_lt F 5
 have hb1:b<240:=by rw [←hb];exact cut_lt F 99
 have E1:=Lib.hid (frac9 ha1);have E2:=Lib.hid (frac11 hb1);have C5:=Lib.hid c5;have C99:=Lib.hid c99;have HA:=Lib.hid ha;have HB:=Lib.hid hb;obtain ⟨d,hd⟩:∃ d,decide (0<tot F)=d:=⟨_,rfl⟩;have HD:=Lib.hid hd;have hr:=h.lt;clear c5 c99 ha hb hd
 go_enter Tryz.func174,Tryz.ntmps174
 go_wp2_with fail
 have hN:=newW w;have h1:=h.keep hN.2 hr;generalize w.alloc _=w1 at hN h1 ⊢;refine (cut_any r _ _ 5 _ h1).mono ?_;rintro e w' ⟨rfl,rfl⟩;rw [C5.out,HA.out,HD.out];go_wp2_with fail
 refine (cut_any r _ _ 99 _ h1).mono ?_;rintro e w' ⟨rfl,rfl⟩;rw [C99.out,HB.out,HD.out];go_wp2_with fail
 refine (frac_any _ _ _ ⟨by omega,by omega⟩ ⟨by omega,by omega⟩ ⟨by omega,by omega⟩ _).mono ?_
 rintro e w' ⟨rfl,j,rfl⟩;rw [E1.out];have hN1:=hN.drewN j;generalize w1.drewN j=w2 at hN1 ⊢;clear hN h1;go_wp2_with fail
 refine (fracUp_any _ _ _ ⟨by omega,by omega⟩ ⟨by omega,by omega⟩ ⟨by omega,by omega⟩ _).mono ?_
 rintro e w' ⟨rfl,j,rfl⟩;rw [E2.out];have hN2:=hN1.drewN j;generalize w2.drewN j=w3 at hN2 ⊢;clear hN1;obtain ⟨p,hp⟩:∃ p,preC a=p:=⟨_,rfl⟩;obtain ⟨m,hm⟩:∃ m,endC b=m:=⟨_,rfl⟩;have HP:=Lib.hid hp;have HM:=Lib.hid hm;rw [hp,hm];clear hp hm;have HW:=Lib.hid hN2.1;go_wp2_with (with_reducible refine wpList_store_win rfl (.tmp 2) (.tmp 22) rfl w.heap.size 1 p m rfl rfl 0 0 0 HW ?_;intro w4 HG hg4)
 refine bodyPost_ret (ret_win (fn:=Tryz.f174) rfl rfl HG) rfl ⟨?_,hN2.done hg4⟩;rw [HA.out,HB.out,HP.out,HM.out]
theorem of_few (r s o:Nat) (F:Nat→Nat) (ys:List Int) (w:World) (h:Hs w r F o) (hR:Rg w s ys) (hf:tot F+o<4) :
  Calls Tryz.prog 151 #[.pointer (some ⟨r,0,none⟩),.pointer (some ⟨s,0,none⟩)] w fun e w'=>e=.returned (Win 0 0 10)∧Below w.heap.size w w':=by
 obtain ⟨T,hT⟩:∃ T,tot F=T:=⟨_,rfl⟩;have hlt:=h.1;rw [hT] at hf hlt;have HT:=Lib.hid hT;clear hT;have hfi:(T:Int)+(o:Int)<4:=by omega
 go_enter Tryz.func151,Tryz.ntmps151
 go_wp2_with fail
 have hN:=newW w;have h1:=h.keep hN.2 h.lt;have hR1:=hR.keep hN.2 hR.lt;generalize w.alloc _=w1 at hN h1 hR1 ⊢;clear h hR;refine (histo_over r _ _ _ h1).mono ?_;rintro e w' ⟨rfl,rfl⟩;go_wp2_with fail
 refine (histo_in r _ _ _ h1).mono ?_;rintro e w' ⟨rfl,rfl⟩;rw [HT.out];go_wp2_with fail
 refine (fixed_any _).mono ?_;rintro e w2 ⟨rfl,hb2⟩;have hN2:=hN.below hb2;clear hN h1 hR1 hb2;have HW:=Lib.hid hN2.1;go_wp2_with (with_reducible refine wpList_store_win rfl (.tmp 4) (.tmp 16) rfl w.heap.size 0 0 10 rfl rfl 0 0 0 HW ?_;intro w4 HG hg4)
 exact bodyPost_ret (ret_win (fn:=Tryz.f151) rfl rfl HG) rfl ⟨rfl,hN2.done hg4⟩
theorem of_next (r s o:Nat) (F:Nat→Nat) (ys:List Int) (w:World) (h:Hs w r F o) (hR:Rg w s ys) (hf:4≤tot F+o) (hn:tot F+o<2*o) :
  Calls Tryz.prog 151 #[.pointer (some ⟨r,0,none⟩),.pointer (some ⟨s,0,none⟩)] w fun e w'=>e=.returned (Win 2 (preN (nextI ys)) (endN (nextI ys)))∧Below w.heap.size w w':=by
 obtain ⟨T,hT⟩:∃ T,tot F=T:=⟨_,rfl⟩;have hlt:=h.1;rw [hT] at hf hn hlt;have HT:=Lib.hid hT;clear hT;have hfi:decide ((T:Int)+(o:Int)<4)=false:=by simp;omega
 have hni:(T:Int)+(o:Int)<2*(o:Int):=by omega
 go_enter Tryz.func151,Tryz.ntmps151
 go_wp2_with fail
 have hN:=newW w;have h1:=h.keep hN.2 h.lt;have hR1:=hR.keep hN.2 hR.lt;generalize w.alloc _=w1 at hN h1 hR1 ⊢;clear h hR;refine (histo_over r _ _ _ h1).mono ?_;rintro e w' ⟨rfl,rfl⟩;go_wp2_with fail
 refine (histo_in r _ _ _ h1).mono ?_;rintro e w' ⟨rfl,rfl⟩;rw [HT.out];go_wp2_with fail
 refine (ring_list s _ _ hR1).mono ?_;rintro e w2 ⟨g,cap,m,HM,rfl,own,hb2⟩;have hN2:=hN.below hb2;have L2:=lies_own own;have k1:=(own_cap own).1;have k2:=own_max own;clear hN h1 hR1 hb2 own;go_wp2_with fail
 refine (next_any _ _ m cap ys _ HM.out k1 k2 L2).mono ?_;rintro e w' ⟨rfl,j,rfl⟩;have hN3:=hN2.drewN j;generalize w2.drewN j=w3 at hN3 ⊢;clear hN2 L2 k1 k2;obtain ⟨n0,n1⟩:=next_range ys;obtain ⟨n,hn'⟩:∃ n,nextI ys=n:=⟨_,rfl⟩;rw [hn'] at n0 n1 ⊢;have HNN:=Lib.hid hn';clear hn';go_wp2_with fail
 refine (byNext_any n n0 n1 _).mono ?_;rintro e w4 ⟨rfl,hb4⟩;have hN2:=hN3.below hb4;clear hN3 hb4;obtain ⟨p,hp⟩:∃ p,preN n=p:=⟨_,rfl⟩;obtain ⟨q,hq⟩:∃ q,endN n=q:=⟨_,rfl⟩;rw [hp,hq];have HP:=Lib.hid hp;have HQ:=Lib.hid hq;clear hp hq;have HW:=Lib.hid hN2.1;go_wp2_with (with_reducible refine wpList_store_win rfl (.tmp 4) (.tmp 25) rfl w.heap.size 2 p q rfl rfl 0 0 0 HW ?_;intro w4 HG hg4)
 exact bodyPost_ret (ret_win (fn:=Tryz.f151) rfl rfl HG) rfl ⟨by rw [HNN.out,HP.out,HQ.out],hN2.done hg4⟩
theorem of_not (r s o:Nat) (F:Nat→Nat) (ys:List Int) (w:World) (h:Hs w r F o) (hR:Rg w s ys) (hf:4≤tot F+o) (hn:2*o≤tot F+o) (hs:spreadB F=false) :
  Calls Tryz.prog 151 #[.pointer (some ⟨r,0,none⟩),.pointer (some ⟨s,0,none⟩)] w fun e w'=>e=.returned (Win 0 0 10)∧Below w.heap.size w w':=by
 obtain ⟨T,hT⟩:∃ T,tot F=T:=⟨_,rfl⟩;have hlt:=h.1;rw [hT] at hf hn hlt;have HT:=Lib.hid hT;clear hT;have hfi:decide ((T:Int)+(o:Int)<4)=false:=by simp;omega
 have hni:decide ((T:Int)+(o:Int)<2*(o:Int))=false:=by simp;omega
 have HS:=Lib.hid hs;clear hs
 go_enter Tryz.func151,Tryz.ntmps151
 go_wp2_with fail
 have hN:=newW w;have h1:=h.keep hN.2 h.lt;have hR1:=hR.keep hN.2 hR.lt;generalize w.alloc _=w1 at hN h1 hR1 ⊢;clear h hR;refine (histo_over r _ _ _ h1).mono ?_;rintro e w' ⟨rfl,rfl⟩;go_wp2_with fail
 refine (histo_in r _ _ _ h1).mono ?_;rintro e w' ⟨rfl,rfl⟩;rw [HT.out];go_wp2_with fail
 refine (spread_any r _ _ _ h1).mono ?_;rintro e w' ⟨rfl,j,rfl⟩;rw [HS.out];have hN1:=hN.drewN j;generalize w1.drewN j=w2 at hN1 ⊢;clear hN h1 hR1;go_wp2_with fail
 refine (fixed_any _).mono ?_;rintro e w3 ⟨rfl,hb2⟩;have hN2:=hN1.below hb2;clear hN1 hb2;have HW:=Lib.hid hN2.1;go_wp2_with (with_reducible refine wpList_store_win rfl (.tmp 4) (.tmp 30) rfl w.heap.size 0 0 10 rfl rfl 0 0 0 HW ?_;intro w4 HG hg4)
 exact bodyPost_ret (ret_win (fn:=Tryz.f151) rfl rfl HG) rfl ⟨rfl,hN2.done hg4⟩
theorem of_hist (r s o:Nat) (F:Nat→Nat) (ys:List Int) (w:World) (h:Hs w r F o) (hR:Rg w s ys) (hf:4≤tot F+o) (hn:2*o≤tot F+o) (hs:spreadB F=true) :
  Calls Tryz.prog 151 #[.pointer (some ⟨r,0,none⟩),.pointer (some ⟨s,0,none⟩)] w fun e w'=>e=.returned (Win 1 (preC (cutN F 5)) (endC (cutN F 99)))∧Below w.heap.size w w':=by
 obtain ⟨T,hT⟩:∃ T,tot F=T:=⟨_,rfl⟩;have hlt:=h.1;rw [hT] at hf hn hlt;have HT:=Lib.hid hT;clear hT;have hfi:decide ((T:Int)+(o:Int)<4)=false:=by simp;omega
 have hni:decide ((T:Int)+(o:Int)<2*(o:Int))=false:=by simp;omega
 have HS:=Lib.hid hs;clear hs
 go_enter Tryz.func151,Tryz.ntmps151
 go_wp2_with fail
 have hN:=newW w;have h1:=h.keep hN.2 h.lt;have hR1:=hR.keep hN.2 hR.lt;generalize w.alloc _=w1 at hN h1 hR1 ⊢;clear h hR;refine (histo_over r _ _ _ h1).mono ?_;rintro e w' ⟨rfl,rfl⟩;go_wp2_with fail
 refine (histo_in r _ _ _ h1).mono ?_;rintro e w' ⟨rfl,rfl⟩;rw [HT.out];go_wp2_with fail
 refine (spread_any r _ _ _ h1).mono ?_;rintro e w' ⟨rfl,j,rfl⟩;rw [HS.out];have hN1:=hN.drewN j;have h2:=h1.drewN j;generalize w1.drewN j=w2 at hN1 h2 ⊢;clear hN h1 hR1;go_wp2_with fail
 refine (byCounts_any r _ _ _ h2).mono ?_;rintro e w3 ⟨rfl,hb2⟩;have hN2:=hN1.below hb2;clear hN1 hb2 h2;obtain ⟨p,hp⟩:∃ p,preC (cutN F 5)=p:=⟨_,rfl⟩;obtain ⟨q,hq⟩:∃ q,endC (cutN F 99)=q:=⟨_,rfl⟩;rw [hp,hq];have HP:=Lib.hid hp;have HQ:=Lib.hid hq;clear hp hq;have HW:=Lib.hid hN2.1;go_wp2_with (with_reducible refine wpList_store_win rfl (.tmp 4) (.tmp 32) rfl w.heap.size 1 p q rfl rfl 0 0 0 HW ?_;intro w4 HG hg4)
 exact bodyPost_ret (ret_win (fn:=Tryz.f151) rfl rfl HG) rfl ⟨by rw [HP.out,HQ.out],hN2.done hg4⟩
theorem of_any (r s o:Nat) (F:Nat→Nat) (ys:List Int) (w:World) (h:Hs w r F o) (hR:Rg w s ys) :
  Calls Tryz.prog 151 #[.pointer (some ⟨r,0,none⟩),.pointer (some ⟨s,0,none⟩)] w fun e w'=>e=.returned (win F o ys)∧Below w.heap.size w w':=by
 by_cases h1:tot F+o<4
 ·rw [win_few h1];exact of_few r s o F ys w h hR h1
 by_cases h2:tot F+o<2*o
 ·rw [win_next (by omega) h2];exact of_next r s o F ys w h hR (by omega) h2
 by_cases h3:spreadB F=true
 ·rw [win_hist (by omega) (by omega) h3];exact of_hist r s o F ys w h hR (by omega) (by omega) h3
 ·rw [win_not (by omega) (by omega) (by simpa using h3)];exact of_not r s o F ys w h hR (by omega) (by omega) (by simpa using h3)
end Go.Proofs.YthdengocipfgiaaGreat.W
