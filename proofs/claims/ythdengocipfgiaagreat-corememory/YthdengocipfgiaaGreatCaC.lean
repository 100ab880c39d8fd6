import Derived.Test.YthdengocipfgiaaGreatRows
import Derived.WalkKit
import Derived.WalkSpells
import Derived.RowKit3
import Derived.Test.YthdengocipfgiaaGreatCaA
import Derived.Laws.LoneSync
import Derived.Laws.Pointers
import Derived.Laws.NewBlocks
import Derived.BigRegion
import Derived.Deep.LoopGhost
/- A part of what core's laws stand on. -/
set_option linter.unusedVariables false
set_option linter.unusedSimpArgs false
set_option maxRecDepth 100000
set_option maxHeartbeats 800000
namespace Go.Proofs.YthdengocipfgiaaGreat
open Go.RowKit
def sat (x:Int):Int:=if x < -9223372036854775808 then -9223372036854775808 else if 9223372036854775807<x then 9223372036854775807 else x
def I64 (x:Int):Prop:=-9223372036854775808≤x∧x≤9223372036854775807
def U64 (x:Int):Prop:=0≤x∧x≤18446744073709551615
theorem ret_int {k:IntKind} {a b:Int} (h:a=b):Ending.returned (.int k a)=.returned (.int k b):=by rw [h]
theorem sat_i64 (x:Int):I64 (sat x):=by unfold sat I64;split <;> (try split) <;> omega
theorem add_any (a b:Int) (ha:I64 a) (hb:I64 b) (w:World) :
  Calls Tryz.prog 32 #[.int .i64 a,.int .i64 b] w fun e w'=>e=.returned (.int .i64 (sat (a+b)))∧w=w':=by
 obtain ⟨a1,a2⟩:=ha;obtain ⟨b1,b2⟩:=hb
 go_enter Tryz.func32,Tryz.ntmps32
 go_wp2
 all_goals go_ret
 all_goals exact ⟨ret_int (by unfold wrap64 at *;unfold sat;split <;> (try split) <;> omega),rfl⟩
end Go.Proofs.YthdengocipfgiaaGreat
namespace Go.Proofs.YthdengocipfgiaaGreat.W
open Go.RowKit
def Cn (w:World) (b:Nat) (n:Int):Prop:=I64 n∧w.heap[b]?=some (.cells [Value.int .i64 n].toArray 66 (0,0))
theorem Cn.lt {w:World} {b:Nat} {n:Int} (h:Cn w b n):b<w.heap.size:=lt_of_row h.2
theorem Cn.cell {w:World} {b:Nat} {n:Int} (h:Cn w b n):w.cell? ⟨b,0,none⟩=some (.int .i64 n):=cellL h.2 0 _ rfl
theorem Cn.keep {w w':World} {b B:Nat} {n:Int} (h:Cn w b n) (hb:Below B w w') (hr:b<B):Cn w' b n:=⟨h.1,by rw [hb.block b hr];exact h.2⟩
theorem Cn.off {w w':World} {b q:Nat} {n:Int} (h:Cn w b n) (hb:w.grownBy w' (some q)) (hr:b≠q):Cn w' b n:=⟨h.1,by rw [hb.block b h.lt (by simpa using hr)];exact h.2⟩
theorem Cn.set {w:World} {b:Nat} {n:Int} (h:Cn w b n) {m:Int} (hm:I64 m):Cn (w.setCell ⟨b,0,none⟩ (.int .i64 m)) b m∧w.grownBy (w.setCell ⟨b,0,none⟩ (.int .i64 m)) (some b):=by
 exact ⟨⟨hm,set_rowL h.2 0 (.int .i64 m)⟩,grown_set w 0 b 0 _⟩
theorem addc_any (q:Nat) (m n:Int) (w:World) (hm:I64 m) (hn:I64 n) (hq:w.cell? ⟨q,0,none⟩=some (.int .i64 n)) :
  Calls Tryz.prog 31 #[.int .i64 m,.pointer (some ⟨q,0,none⟩)] w fun e w'=>e=.returned (.int .i64 (sat (m+n)))∧w=w':=by
 go_enter Tryz.func31,Tryz.ntmps31
 go_wp2_with fail
 refine (add_any m n hm hn _).mono ?_;rintro e w1 ⟨rfl,rfl⟩;go_wp2_with fail
 go_ret
 exact ⟨rfl,rfl⟩
theorem atlO (b j:Nat) (n:Int) (cs:List Value) (T:TypeId) (w:World) (hr:w.heap[b]?=some (.cells cs.toArray T (0,0))) (hj:cs[j]?=some (.int .i64 n)) :
  Calls Tryz.prog 52 #[.pointer (some ⟨b,j,none⟩)] w fun e w'=>e=.returned (.int .i64 n)∧w=w':=by
 have hl:=run_call_load (P:=Tryz.prog) Tryz.func95 (by kernel_rfl) (by kernel_rfl) (by kernel_rfl) .i64 (by kernel_rfl) (cellL hr j _ hj)
 clear hr hj
 go_enter Tryz.func52,Tryz.ntmps52
 go_wp2
 go_ret
 exact ⟨rfl,rfl⟩
theorem casO (b j:Nat) (n m:Int) (cs:List Value) (T:TypeId) (w:World) (hr:w.heap[b]?=some (.cells cs.toArray T (0,0))) (hj:cs[j]?=some (.int .i64 n)) :
  Calls Tryz.prog 53 #[.pointer (some ⟨b,j,none⟩),.int .i64 n,.int .i64 m] w fun e w'=>e=.returned (.bool true)∧w'.heap[b]?=some (.cells (cs.set j (.int .i64 m)).toArray T (0,0))∧w.grownBy w' (some b):=by
 have hcas:=run_call_cas_hit (P:=Tryz.prog) Tryz.func96 (by kernel_rfl) (by kernel_rfl) (by kernel_rfl) .i64 (by kernel_rfl) (y:=m) (cellL hr j _ hj) (frozen_of_row _ _ _ _ _ hr)
 have HS:=Lib.hid (And.intro (set_rowL hr j (.int .i64 m)) (grown_set w 0 b j (.int .i64 m)));clear hr hj
 go_enter Tryz.func53,Tryz.ntmps53
 go_wp2
 go_ret
 exact ⟨rfl,HS.out.1,HS.out.2⟩
theorem turnO (b j q:Nat) (m n:Int) (cs:List Value) (T:TypeId) (w:World) (hr0:w.heap[b]?=some (.cells cs.toArray T (0,0))) (hj:cs[j]?=some (.int .i64 m)) (hm:I64 m) (hn:I64 n) (hq:w.cell? ⟨q,0,none⟩=some (.int .i64 n)) :
  Calls Tryz.prog 30 #[.pointer (some ⟨b,j,none⟩),.func (.func 31) #[] #[.pointer (some ⟨q,0,none⟩)]] w fun e w'=>e=.returned (.int .i64 (sat (m+n)))∧w'.heap[b]?=some (.cells (cs.set j (.int .i64 (sat (m+n)))).toArray T (0,0))∧w.grownBy w' (some b):=by
 obtain ⟨r,hr⟩:∃ r,sat (m+n)=r:=⟨_,rfl⟩;have hca:=addc_any q m n w hm hn hq;rw [hr] at hca ⊢;have HR:=Lib.hid hr0;have HJ:=Lib.hid hj;clear hr hq hr0 hj
 go_enter Tryz.func30,Tryz.ntmps30
 go_wp2_with fail
 go_loopg [] 0 (fun gk wr=>w=wr)
 case atStart=>rfl
 case round =>
  obtain rfl:=hrel;go_wp2_with fail
  refine (atlO b j m cs T _ HR.out HJ.out).mono ?_;rintro e w1 ⟨rfl,rfl⟩;go_wp2_with fail
  refine hca.mono ?_;rintro e w1 ⟨rfl,rfl⟩;clear hca;go_wp2_with fail
  refine (casO b j m r cs T _ HR.out HJ.out).mono ?_;rintro e w1 ⟨rfl,h1,g1⟩;go_wp2_with fail
  go_ret
  exact ⟨rfl,h1,g1⟩
theorem addAt (b j:Nat) (m n:Int) (cs:List Value) (T:TypeId) (w:World) (hr0:w.heap[b]?=some (.cells cs.toArray T (0,0))) (hj:cs[j]?=some (.int .i64 m)) (hm:I64 m) (hn:I64 n) :
  Calls Tryz.prog 18 #[.pointer (some ⟨b,j,none⟩),.int .i64 n] w fun e w'=>e=.returned (.int .i64 (sat (m+n)))∧w'.heap[b]?=some (.cells (cs.set j (.int .i64 (sat (m+n)))).toArray T (0,0))∧w.grownBy w' (some b):=by
 have hq:=heap_alloc_new w (.cells #[.int .i64 n] 2);have hg:=World.grownBy_alloc w (.cells #[.int .i64 n] 2) (some b);have h1:(w.alloc (.cells #[.int .i64 n] 2)).heap[b]?=some (.cells cs.toArray T (0,0)):=by rw [(World.grownBy_alloc w (.cells #[.int .i64 n] 2) none).block b (lt_of_row hr0) (by simp)];exact hr0
 have ht:=turnO b j w.heap.size m n cs T (w.alloc (.cells #[.int .i64 n] 2)) h1 hj hm hn (cell_of_row _ _ 0 _ _ _ hq);obtain ⟨r,hr⟩:∃ r,sat (m+n)=r:=⟨_,rfl⟩;rw [hr] at ht ⊢;have HT:=Lib.hid ht;clear hr h1 hq hr0 hj ht
 go_enter Tryz.func18,Tryz.ntmps18
 go_wp2_with fail
 refine HT.out.mono ?_;rintro e w1 ⟨rfl,h2,g2⟩;go_wp2_with fail
 go_ret
 exact ⟨rfl,h2,grown_trans hg g2⟩
def bnd (n:Int):Nat:=(min (max n 0) 1000).toNat
theorem bnd_le (n:Int):bnd n≤1000:=by unfold bnd;omega
theorem bnd_eq (n:Int):(bnd n:Int)=min (max n 0) 1000:=by unfold bnd;omega
theorem bwithin_any (n:Int) (w:World):Calls Tryz.prog 120 #[.int .i64 n] w fun e w'=>e=.returned (.int .i64 (bnd n:Int))∧w=w':=by
 go_enter Tryz.func120,Tryz.ntmps120
 go_wp2_with (first
  | (with_reducible refine wpList_max_to rfl (.tmp 3) (.const (.int .i64 0)) 3 3 rfl .i64 .i64 n 0 (max n 0) rfl rfl rfl ?_)
  | (with_reducible refine wpList_min_to rfl (.tmp 4) (.const (.int .i64 1000)) 3 3 rfl .i64 .i64 (max n 0) 1000 (bnd n:Int) rfl rfl (bnd_eq n) ?_))
 go_ret
 exact ⟨rfl,rfl⟩
def Bk (w:World) (b s r t:Nat):Prop :=
 s≤1000∧r≤1000∧t≤s∧w.heap[b]?=some (.cells [Value.int .i64 (s:Int),.int .i64 (r:Int),.int .i64 (t:Int)].toArray 191 (0,0))
theorem Bk.lt {w:World} {b s r t:Nat} (h:Bk w b s r t):b<w.heap.size:=lt_of_row h.2.2.2
theorem Bk.keep {w w':World} {b s r t B:Nat} (h:Bk w b s r t) (hb:Below B w w') (hr:b<B):Bk w' b s r t:=⟨h.1,h.2.1,h.2.2.1,by rw [hb.block b hr];exact h.2.2.2⟩
theorem Bk.off {w w':World} {b s r t q:Nat} (h:Bk w b s r t) (hb:w.grownBy w' (some q)) (hr:b≠q):Bk w' b s r t :=
 ⟨h.1,h.2.1,h.2.2.1,by rw [hb.block b h.lt (by simpa using hr)];exact h.2.2.2⟩
theorem b_tokens (b s r t:Nat) (w:World) (h:Bk w b s r t) :
  Calls Tryz.prog 69 #[.pointer (some ⟨b,0,none⟩)] w fun e w'=>e=.returned (.int .i64 (t:Int))∧w=w':=by
 have h3:=cellL h.2.2.2 2 _ rfl;clear h
 go_enter Tryz.func69,Tryz.ntmps69
 go_wp2
 go_ret
 exact ⟨rfl,rfl⟩
theorem b_take (b s r t:Nat) (w:World) (h:Bk w b s r t) :
  Calls Tryz.prog 71 #[.pointer (some ⟨b,0,none⟩)] w fun e w'=>e=.returned (.bool (decide (0<t)))∧Bk w' b s r (t-1)∧w.grownBy w' (some b):=by
 have h3:=cellL h.2.2.2 2 _ rfl;have H:=Lib.hid h;have hg:=Lib.hid h.2.2.2;have h1k:(t:Int)≤1000:=by have:=h.1;have:=h.2.2.1;omega
 clear h
 cases t with
 | zero =>
  go_enter Tryz.func71,Tryz.ntmps71
  go_wp2
  go_ret
  exact ⟨rfl,H.out,World.grownBy.refl _ _⟩
 | succ n =>
  have hn:((n+1:Nat):Int)=(n:Int)+1:=by omega
  rw [hn] at h3 h1k;have hne:((n:Int)+1 == 0)=false:=by simp;omega
  have hnn:(n:Int)+1-1=n:=by omega
  clear hn
  go_enter Tryz.func71,Tryz.ntmps71
  go_wp2_with (with_reducible refine wpList_store_in rfl 3 (.tmp 14) (.tmp 12) rfl (by kernel_rfl) b 2 rfl .i64 (n:Int) rfl _ _ hg.out (by simp) ?_;intro w2 HG2 hg2)
  go_ret
  refine ⟨?_,⟨H.out.1,H.out.2.1,by have:=H.out.2.2.1;omega,HG2.out⟩,hg2⟩
  simp
theorem b_tick (b s r t:Nat) (w:World) (h:Bk w b s r t) :
  Calls Tryz.prog 92 #[.pointer (some ⟨b,0,none⟩)] w fun e w'=>e=.returned (.tuple #[])∧Bk w' b s r (min (t+r) s)∧w.grownBy w' (some b):=by
 have h0:=cellL h.2.2.2 0 _ rfl;have h1:=cellL h.2.2.2 1 _ rfl;have h2:=cellL h.2.2.2 2 _ rfl;have H:=Lib.hid h;have hg:=Lib.hid h.2.2.2;have hs:(s:Int)≤1000:=by have:=h.1;omega
 have hr:(r:Int)≤1000:=by have:=h.2.1;omega
 have ht:(t:Int)≤1000:=by have:=h.1;have:=h.2.2.1;omega
 obtain ⟨m,hm⟩:∃ m,m=min (t+r) s:=⟨_,rfl⟩;have hif:(if (s:Int)<(t:Int)+(r:Int) then (s:Int) else (t:Int)+(r:Int))=(m:Int):=by subst hm;split <;> omega
 have hw:IntKind.i64.wrap ((t:Int)+(r:Int))=(t:Int)+(r:Int):=by rw [IntKind.wrap_i64];omega
 rw [←hm];have HM:=Lib.hid hm;clear h hm
 go_enter Tryz.func92,Tryz.ntmps92
 go_still_tail 17,(by kernel_rfl)
 change wpList _ _ _ _ _ w.drew;have hd:=grown_drew (World.grownBy.refl w (some b));have hg1:Hid (w.drew.heap[b]?=_):=hg;generalize w.drew=w1 at hd hg1 ⊢;refine wpList_store_in rfl 3 (.tmp 18) (.tmp 16) rfl (by kernel_rfl) b 2 rfl .i64 (m:Int) rfl _ _ hg1.out (by simp) ?_
 intro w2 HG2 hg2;clear h0 h1 h2 hif hw
 go_wp2
 go_end0
 exact ⟨rfl,⟨H.out.1,H.out.2.1,by have:=HM.out;omega,HG2.out⟩,grown_trans hd hg2⟩
theorem b_set (b s r t:Nat) (x y:Int) (w:World) (h:Bk w b s r t) :
  Calls Tryz.prog 74 #[.pointer (some ⟨b,0,none⟩),.int .i64 x,.int .i64 y] w fun e w'=>e=.returned (.tuple #[])∧Bk w' b (bnd x) (bnd y) (min t (bnd x))∧w.grownBy w' (some b):=by
 have hg:=Lib.hid h.2.2.2;have hx:=bnd_le x;have hy:=bnd_le y;obtain ⟨sx,hsx⟩:∃ sx,bnd x=sx:=⟨_,rfl⟩;obtain ⟨sy,hsy⟩:∃ sy,bnd y=sy:=⟨_,rfl⟩;obtain ⟨m,hm⟩:∃ m,m=min t (bnd x):=⟨_,rfl⟩;have hif:(if sx<t then (sx:Int) else (t:Int))=(m:Int):=by subst hm hsx;split <;> omega
 rw [←hm];have HM:=Lib.hid hm;have HX:=Lib.hid hsx;have HY:=Lib.hid hsy;clear h hm hsx hsy
 go_enter Tryz.func74,Tryz.ntmps74
 go_wp2_with fail
 refine (bwithin_any x w).mono ?_;rintro e w1 ⟨rfl,rfl⟩;rw [HX.out];go_wp2_with fail
 refine (bwithin_any y w).mono ?_;rintro e w1 ⟨rfl,rfl⟩;rw [HY.out]
 go_wp2_with (first
  | (with_reducible refine wpList_store_in rfl 3 (.tmp 13) (.tmp 9) rfl (by kernel_rfl) b 0 rfl .i64 (sx:Int) rfl _ _ hg.out (by simp) ?_;intro w2 HG2 hg2)
  | (with_reducible refine wpList_store_in rfl 3 (.tmp 15) (.tmp 11) rfl (by kernel_rfl) b 1 rfl .i64 (sy:Int) rfl _ _ HG2.out (by simp) ?_;intro w3 HG3 hg3))
 have h0:=cellL HG3.out 0 _ rfl;have h2:=cellL HG3.out 2 _ rfl
 go_still_tail 12,(by kernel_rfl)
 change wpList _ _ _ _ _ w3.drew;have hd:=grown_drew (grown_trans hg2 hg3);have hg1:Hid (w3.drew.heap[b]?=_):=HG3;generalize w3.drew=w4 at hd hg1 ⊢;refine wpList_store_in rfl 3 (.tmp 27) (.tmp 25) rfl (by kernel_rfl) b 2 rfl .i64 (m:Int) rfl _ _ hg1.out (by simp) ?_
 intro w5 HG5 hg5;clear h0 h2 hif
 go_wp2
 go_end0
 rw [HX.out] at hx ⊢;rw [HY.out] at hy ⊢;exact ⟨rfl,⟨hx,hy,by have:=HM.out;have:=HX.out;omega,HG5.out⟩,grown_trans hd hg5⟩
theorem b_new (x y:Int) (w:World) :
  Calls Tryz.prog 75 #[.int .i64 x,.int .i64 y] w fun e w'=>e=.returned (.pointer (some ⟨w.heap.size,0,none⟩))∧Bk w' w.heap.size (bnd x) (bnd y) (bnd x)∧Below w.heap.size w w':=by
 have hb:Below w.heap.size w (w.alloc (.cells [Value.int .i64 0,.int .i64 0,.int .i64 0].toArray 191)):=(Below.refl _ _).alloc (Nat.le_refl _) _;have hB:Bk (w.alloc (.cells [Value.int .i64 0,.int .i64 0,.int .i64 0].toArray 191)) w.heap.size 0 0 0:=⟨by decide,by decide,by decide,heap_alloc_new _ _⟩
 obtain ⟨b,hbs⟩:∃ b,w.heap.size=b:=⟨_,rfl⟩
 go_enter Tryz.func75,Tryz.ntmps75
 go_wp2_with fail
 rw [hbs] at hB;have HBS:=Lib.hid hbs;clear hbs;refine (b_set b 0 0 0 x y _ hB).mono ?_;rintro e w2 ⟨rfl,h2,hg2⟩;have hb2:=below_row hb (by rw [HBS.out];exact Nat.le_refl _) hg2 hb.size
 have c0:=cellL h2.2.2.2 0 _ rfl;have hg:=Lib.hid h2.2.2.2;have hx:=h2.1;have hy:=h2.2.1;obtain ⟨sx,hsx⟩:∃ sx,bnd x=sx:=⟨_,rfl⟩;rw [hsx] at c0 hg hx;have HSX:=Lib.hid hsx;have HX:=Lib.hid hx;have HY:=Lib.hid hy;clear h2 hB hb hg2 hsx hx hy;go_wp2_with (with_reducible refine wpList_store_in rfl 3 (.tmp 18) (.tmp 16) rfl (by kernel_rfl) b 2 rfl .i64 (sx:Int) rfl _ _ hg.out (by simp) ?_;intro w3 HG3 hg3)
 go_ret
 rw [HSX.out,HBS.out];rw [HBS.out] at hb2;exact ⟨rfl,⟨HX.out,HY.out,Nat.le_refl _,HG3.out⟩,below_row hb2 (Nat.le_refl _) hg3 (by rw [←HBS.out];exact hb2.size)⟩
end Go.Proofs.YthdengocipfgiaaGreat.W
