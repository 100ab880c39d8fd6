import Derived.Test.YthdengocipfgiaaGreatRows
import Derived.Test.YthdengocipfgiaaGreatCaA
import Derived.BigRegion
import Derived.Deep.RegionHeld3
/- A part of what core's laws stand on. -/
set_option linter.unusedVariables false
set_option linter.unusedSimpArgs false
set_option maxRecDepth 100000
set_option maxHeartbeats 3200000
namespace Go.Proofs.YthdengocipfgiaaGreat.W
open Go.RowKit
def IL (w:World) (B:Nat) (A:Option Addr) (xs:List Int):Prop:=(A=none∧xs=[])∨∃ g,A=some ⟨g,0,none⟩∧B≤g∧w.heap[g]?=some (.cells (ints xs).toArray 3 (0,0))
def NewIE (w:World) (xs:List Int) (e:Ending) (w':World):Prop:=∃ A k,Hid (k=xs.length)∧e=.returned (.slice A k k)∧IL w' w.heap.size A xs∧Below w.heap.size w w'
theorem NewIE.nil {w w':World} {xs:List Int} (hx:xs=[]) (hb:Below w.heap.size w w'):NewIE w xs (.returned (.slice none 0 0)) w':=by
 subst hx;exact ⟨none,0,rfl,rfl,Or.inl ⟨rfl,rfl⟩,hb⟩
theorem NewIE.mk {w w':World} {xs ys:List Int} {g k:Nat} (hx:xs=ys) (hk:k=ys.length) (hg:w'.heap[g]?=some (.cells (ints ys).toArray 3 (0,0))) (hB:w.heap.size≤g) (hb:Below w.heap.size w w'):NewIE w xs (.returned (.slice (some ⟨g,0,none⟩) k k)) w':=by
 subst hx;exact ⟨_,k,hk,rfl,Or.inr ⟨g,rfl,hB,hg⟩,hb⟩
theorem second (w:World) (o u:Obj):((w.alloc o).alloc u).heap[w.heap.size+1]?=some u:=by
 have:=heap_alloc_new (w.alloc o) u
 simpa using this
abbrev ev (e:Ev):Value:=.agg #[.int .i64 e.k,.int .i64 e.n,.int .i64 e.l,.int .i64 e.s,.int .i64 e.r,.int .i64 e.a,.int .i64 e.m,.int .i64 e.c,.int .i64 e.v,.int .i64 e.p]
theorem numbers_any (k n l s r a m c v p:Int) (w:World) :
  Calls Tryz.prog 23 #[.agg #[.int .i64 k,.int .i64 n,.int .i64 l,.int .i64 s,.int .i64 r,.int .i64 a,.int .i64 m,.int .i64 c,.int .i64 v,.int .i64 p]] w (NewIE w (nums ⟨k,n,l,s,r,a,m,c,v,p⟩)):=by
 have b0:Below w.heap.size w w:=Below.refl _ _
 by_cases h0:k=0
 ·have hx:nums ⟨k,n,l,s,r,a,m,c,v,p⟩=[]:=by simp [nums,h0]
  have HX:=Lib.hid hx;clear hx;subst h0
  go_enter Tryz.func23,Tryz.ntmps23
  go_wp2
  go_ret
  exact NewIE.nil HX.out (b0.alloc (Nat.le_refl _) _)
 ·by_cases h1:k=1
  ·have hx:nums ⟨k,n,l,s,r,a,m,c,v,p⟩=[n,l,s,r]:=by simp [nums,h1]
   have HX:=Lib.hid hx;clear hx;subst h1
   go_enter Tryz.func23,Tryz.ntmps23
   go_wp2
   go_ret
   exact NewIE.mk HX.out rfl (second _ _ _) (by simp) ((b0.alloc (Nat.le_refl _) _).alloc (by simp) _)
  ·by_cases h2:k=2
   ·have hx:nums ⟨k,n,l,s,r,a,m,c,v,p⟩=[n,a,m,c,v,p]:=by simp [nums,h2]
    have HX:=Lib.hid hx;clear hx;subst h2
    go_enter Tryz.func23,Tryz.ntmps23
    go_wp2
    go_ret
    exact NewIE.mk HX.out rfl (second _ _ _) (by simp) ((b0.alloc (Nat.le_refl _) _).alloc (by simp) _)
   ·by_cases h3:k=3
    ·have hx:nums ⟨k,n,l,s,r,a,m,c,v,p⟩=[n,s]:=by simp [nums,h3]
     have HX:=Lib.hid hx;clear hx;subst h3
     go_enter Tryz.func23,Tryz.ntmps23
     go_wp2
     go_ret
     exact NewIE.mk HX.out rfl (second _ _ _) (by simp) ((b0.alloc (Nat.le_refl _) _).alloc (by simp) _)
    ·have hx:nums ⟨k,n,l,s,r,a,m,c,v,p⟩=[n]:=by simp [nums,h0,h1,h2,h3]
     have HX:=Lib.hid hx;clear hx;have d0:(k == 0)=false:=by simpa using h0
     have d1:(k == 1)=false:=by simpa using h1
     have d2:(k == 2)=false:=by simpa using h2
     have d3:(k == 3)=false:=by simpa using h3
     clear h0 h1 h2 h3
     go_enter Tryz.func23,Tryz.ntmps23
     go_wp2
     go_ret
     exact NewIE.mk HX.out rfl (second _ _ _) (by simp) ((b0.alloc (Nat.le_refl _) _).alloc (by simp) _)
theorem IL.cells {w:World} {B:Nat} {A:Option Addr} {xs:List Int} (h:IL w B A xs) (hx:xs≠[]):∃ g,A=some ⟨g,0,none⟩∧B≤g∧g<w.heap.size∧∀ j x,xs[j]?=some x→w.cell? ⟨g,j,none⟩=some (.int .i64 x):=by
 rcases h with ⟨_,rfl⟩ | ⟨g,h1,h2,h3⟩
 ·exact absurd rfl hx
 ·exact ⟨g,h1,h2,lt_of_row h3,fun j x hj=>cellL h3 j _ (by rw [List.getElem?_map,hj];rfl)⟩
theorem IL.lies {w:World} {B:Nat} {A:Option Addr} {xs:List Int} (h:IL w B A xs):Lies w w.heap.size A (ints xs):=by
 rcases h with ⟨rfl,rfl⟩ | ⟨g,rfl,_,h3⟩
 ·exact Lies.nil _ _ _
 ·intro j u hu
  exact ⟨_,rfl,lt_of_row h3,by rw [add_lit0];exact cellL h3 j u hu⟩
theorem IL.below {w w':World} {B B':Nat} {A:Option Addr} {xs:List Int} (h:IL w B A xs) (hb:Below B' w w') (hB:w.heap.size≤B'):IL w' B A xs:=by
 rcases h with h | ⟨g,h1,h2,h3⟩
 ·exact Or.inl h
 ·exact Or.inr ⟨g,h1,h2,by rw [hb.block g (by have:=lt_of_row h3;omega)];exact h3⟩
theorem sizeE:(Tryz.prog.info? 29).map (·.size)=some 10:=by kernel_rfl
theorem wpList_store_ev {w:World} {ops:Array Oper} {rest:List Oper} {o:Oper} {act:Act} {Q:Exit→Act→World→Prop} (hgd:o.guard=none) (x y:Operand) (ho:o.op=.store 29 x y)
  (g:Nat) (k n l s r a m c v p:Int) (hx:act.eval x=.pointer (some ⟨g,0,none⟩)) (hy:act.eval y=.agg #[.int .i64 k,.int .i64 n,.int .i64 l,.int .i64 s,.int .i64 r,.int .i64 a,.int .i64 m,.int .i64 c,.int .i64 v,.int .i64 p]) (k0 n0 l0 s0 r0 a0 m0 c0 v0 p0:Int)
  (HG:Hid (w.heap[g]?=some (.cells #[.int .i64 k0,.int .i64 n0,.int .i64 l0,.int .i64 s0,.int .i64 r0,.int .i64 a0,.int .i64 m0,.int .i64 c0,.int .i64 v0,.int .i64 p0] 29 (0,0))))
  (hn:∀ w',Hid (w'.heap[g]?=some (.cells #[.int .i64 k,.int .i64 n,.int .i64 l,.int .i64 s,.int .i64 r,.int .i64 a,.int .i64 m,.int .i64 c,.int .i64 v,.int .i64 p] 29 (0,0)))→w.grownBy w' (some g)→wpList Tryz.prog ops Q rest (act.put o.dst undef) w'):wpList Tryz.prog ops Q (o :: rest) act w:=by
 refine wpList_store_row hgd _ x y ho g _ hx hy _ _ HG.out sizeE rfl (by simp [Value.oneCell']) ?_
 exact hn _ (Lib.hid (show _=_ from setRow_heap w g _ _ _ _ HG.out)) ⟨rfl,rfl,rfl,by simp [World.setRow],fun k _ hk=>setRow_other w g k _ (by intro e;exact hk (by rw [e]))⟩
theorem ret_ev {g:Nat} {k n l s r a m c v p:Int} {w:World} {fn:Func} {t:Tmp} {tmps:Array Value} (hf:fn.results=#[.cell t 29]) (ht:tmps.getD t undef=.pointer (some ⟨g,0,none⟩))
  (HG:Hid (w.heap[g]?=some (.cells #[.int .i64 k,.int .i64 n,.int .i64 l,.int .i64 s,.int .i64 r,.int .i64 a,.int .i64 m,.int .i64 c,.int .i64 v,.int .i64 p] 29 (0,0)))):(results fn tmps).run Tryz.prog w=.ok (.agg #[.int .i64 k,.int .i64 n,.int .i64 l,.int .i64 s,.int .i64 r,.int .i64 a,.int .i64 m,.int .i64 c,.int .i64 v,.int .i64 p]) w :=
 results_cell_row hf tmps w g _ _ _ _ ht HG.out Tryz.underlying29 rfl sizeE
theorem done_row {w w1 w2:World} (h:Below w.heap.size w w1) (hg:w1.grownBy w2 (some w.heap.size)):Below w.heap.size w w2:=below_row h (Nat.le_refl _) hg h.size
theorem made_any (k:Int) (A:Option Addr) (L B:Nat) (xs:List Int) (w:World) (hl:xs.length=cntE k) (hL:L=xs.length) (hA:IL w B A xs) :
  Calls Tryz.prog 24 #[.int .i64 k,.slice A L L] w fun e w'=>e=.returned (ev (mk k (nth xs)))∧Below w.heap.size w w':=by
 have b0:Below w.heap.size w w:=Below.refl _ _
 by_cases d0:k=0
 ·have hx:mk k (nth xs)=⟨0,0,0,0,0,0,0,0,0,0⟩:=by simp [mk,d0]
  rw [hx];clear hx;subst d0
  go_enter Tryz.func24,Tryz.ntmps24
  go_wp2
  refine bodyPost_ret (by simp [results,Tryz.results24,go_sem]) rfl ⟨rfl,?_⟩
  exact b0.alloc (Nat.le_refl _) _
 ·by_cases d1:k=1
  ·subst d1
   match xs,hl with
   | [x0,x1,x2,x3],_ =>
    have hx:mk 1 (nth [x0,x1,x2,x3])=⟨1,x0,x1,x2,x3,0,0,0,0,0⟩:=by simp [mk,nth]
    rw [hx];clear hx;obtain rfl:L=4:=hL;obtain ⟨g,rfl,hB,hg,hc⟩:=hA.cells (by simp)
    have c0:=hc 0 x0 rfl;have c1:=hc 1 x1 rfl;have c2:=hc 2 x2 rfl;have c3:=hc 3 x3 rfl;clear hc hA
    go_enter Tryz.func24,Tryz.ntmps24
    go_wp2_with fail
    have HN0:=heap_alloc_new w (.cells #[.int .i64 0,.int .i64 0,.int .i64 0,.int .i64 0,.int .i64 0,.int .i64 0,.int .i64 0,.int .i64 0,.int .i64 0,.int .i64 0] 29);have b1:Below w.heap.size w (w.alloc (.cells #[.int .i64 0,.int .i64 0,.int .i64 0,.int .i64 0,.int .i64 0,.int .i64 0,.int .i64 0,.int .i64 0,.int .i64 0,.int .i64 0] 29)):=b0.alloc (Nat.le_refl _) _;have f0:=(Only.of_below (S:=fun _=>False) b1).cell (fun q=>q) c0;have f1:=(Only.of_below (S:=fun _=>False) b1).cell (fun q=>q) c1;have f2:=(Only.of_below (S:=fun _=>False) b1).cell (fun q=>q) c2;have f3:=(Only.of_below (S:=fun _=>False) b1).cell (fun q=>q) c3;clear c0 c1 c2 c3;generalize w.alloc (.cells #[.int .i64 0,.int .i64 0,.int .i64 0,.int .i64 0,.int .i64 0,.int .i64 0,.int .i64 0,.int .i64 0,.int .i64 0,.int .i64 0] 29)=w1 at HN0 b1 f0 f1 f2 f3 ⊢
    go_still_tail 14,(by kernel_rfl)
    change wpList _ _ _ _ _ w1.drew;have HN:=Lib.hid (show w1.drew.heap[w.heap.size]?=_ from HN0)
    replace b1:Below w.heap.size w w1.drew:=below_drewN b1 1
    clear HN0 f0 f1 f2 f3;generalize w1.drew=w1 at HN b1 ⊢;go_wp2_with (with_reducible refine wpList_store_ev rfl (.tmp 4) (.tmp 24) rfl w.heap.size 1 x0 x1 x2 x3 0 0 0 0 0 rfl rfl 0 0 0 0 0 0 0 0 0 0 HN ?_;intro w2 HG hg2)
    exact bodyPost_ret (ret_ev (fn:=Tryz.f24) rfl rfl HG) rfl ⟨rfl,done_row b1 hg2⟩
  ·by_cases d2:k=2
   ·subst d2
    match xs,hl with
    | [x0,x1,x2,x3,x4,x5],_ =>
     have hx:mk 2 (nth [x0,x1,x2,x3,x4,x5])=⟨2,x0,0,0,0,x1,x2,x3,x4,x5⟩:=by simp [mk,nth]
     rw [hx];clear hx;obtain rfl:L=6:=hL;obtain ⟨g,rfl,hB,hg,hc⟩:=hA.cells (by simp)
     have c0:=hc 0 x0 rfl;have c1:=hc 1 x1 rfl;have c2:=hc 2 x2 rfl;have c3:=hc 3 x3 rfl;have c4:=hc 4 x4 rfl;have c5:=hc 5 x5 rfl;clear hc hA
     go_enter Tryz.func24,Tryz.ntmps24
     go_wp2_with fail
     have HN0:=heap_alloc_new w (.cells #[.int .i64 0,.int .i64 0,.int .i64 0,.int .i64 0,.int .i64 0,.int .i64 0,.int .i64 0,.int .i64 0,.int .i64 0,.int .i64 0] 29);have b1:Below w.heap.size w (w.alloc (.cells #[.int .i64 0,.int .i64 0,.int .i64 0,.int .i64 0,.int .i64 0,.int .i64 0,.int .i64 0,.int .i64 0,.int .i64 0,.int .i64 0] 29)):=b0.alloc (Nat.le_refl _) _;have f0:=(Only.of_below (S:=fun _=>False) b1).cell (fun q=>q) c0;have f1:=(Only.of_below (S:=fun _=>False) b1).cell (fun q=>q) c1;have f2:=(Only.of_below (S:=fun _=>False) b1).cell (fun q=>q) c2;have f3:=(Only.of_below (S:=fun _=>False) b1).cell (fun q=>q) c3;have f4:=(Only.of_below (S:=fun _=>False) b1).cell (fun q=>q) c4;have f5:=(Only.of_below (S:=fun _=>False) b1).cell (fun q=>q) c5;clear c0 c1 c2 c3 c4 c5;generalize w.alloc (.cells #[.int .i64 0,.int .i64 0,.int .i64 0,.int .i64 0,.int .i64 0,.int .i64 0,.int .i64 0,.int .i64 0,.int .i64 0,.int .i64 0] 29)=w1 at HN0 b1 f0 f1 f2 f3 f4 f5 ⊢
     go_still_tail 20,(by kernel_rfl)
     change wpList _ _ _ _ _ w1.drew;have HN:=Lib.hid (show w1.drew.heap[w.heap.size]?=_ from HN0)
     replace b1:Below w.heap.size w w1.drew:=below_drewN b1 1
     clear HN0 f0 f1 f2 f3 f4 f5;generalize w1.drew=w1 at HN b1 ⊢;go_wp2_with (with_reducible refine wpList_store_ev rfl (.tmp 4) (.tmp 46) rfl w.heap.size 2 x0 0 0 0 x1 x2 x3 x4 x5 rfl rfl 0 0 0 0 0 0 0 0 0 0 HN ?_;intro w2 HG hg2)
     exact bodyPost_ret (ret_ev (fn:=Tryz.f24) rfl rfl HG) rfl ⟨rfl,done_row b1 hg2⟩
   ·by_cases d3:k=3
    ·subst d3
     match xs,hl with
     | [x0,x1],_ =>
      have hx:mk 3 (nth [x0,x1])=⟨3,x0,0,x1,0,0,0,0,0,0⟩:=by simp [mk,nth]
      rw [hx];clear hx;obtain rfl:L=2:=hL;obtain ⟨g,rfl,hB,hg,hc⟩:=hA.cells (by simp)
      have c0:=hc 0 x0 rfl;have c1:=hc 1 x1 rfl;clear hc hA
      go_enter Tryz.func24,Tryz.ntmps24
      go_wp2_with fail
      have HN0:=heap_alloc_new w (.cells #[.int .i64 0,.int .i64 0,.int .i64 0,.int .i64 0,.int .i64 0,.int .i64 0,.int .i64 0,.int .i64 0,.int .i64 0,.int .i64 0] 29);have b1:Below w.heap.size w (w.alloc (.cells #[.int .i64 0,.int .i64 0,.int .i64 0,.int .i64 0,.int .i64 0,.int .i64 0,.int .i64 0,.int .i64 0,.int .i64 0,.int .i64 0] 29)):=b0.alloc (Nat.le_refl _) _;have f0:=(Only.of_below (S:=fun _=>False) b1).cell (fun q=>q) c0;have f1:=(Only.of_below (S:=fun _=>False) b1).cell (fun q=>q) c1;clear c0 c1;generalize w.alloc (.cells #[.int .i64 0,.int .i64 0,.int .i64 0,.int .i64 0,.int .i64 0,.int .i64 0,.int .i64 0,.int .i64 0,.int .i64 0,.int .i64 0] 29)=w1 at HN0 b1 f0 f1 ⊢
      go_still_tail 8,(by kernel_rfl)
      change wpList _ _ _ _ _ w1.drew;have HN:=Lib.hid (show w1.drew.heap[w.heap.size]?=_ from HN0)
      replace b1:Below w.heap.size w w1.drew:=below_drewN b1 1
      clear HN0 f0 f1;generalize w1.drew=w1 at HN b1 ⊢;go_wp2_with (with_reducible refine wpList_store_ev rfl (.tmp 4) (.tmp 56) rfl w.heap.size 3 x0 0 x1 0 0 0 0 0 0 rfl rfl 0 0 0 0 0 0 0 0 0 0 HN ?_;intro w2 HG hg2)
      exact bodyPost_ret (ret_ev (fn:=Tryz.f24) rfl rfl HG) rfl ⟨rfl,done_row b1 hg2⟩
    ·have hc1:cntE k=1:=by simp [cntE,d0,d1,d2,d3]
     rw [hc1] at hl
     match xs,hl with
     | [x0],_ =>
      have hx:mk k (nth [x0])=⟨k,x0,0,0,0,0,0,0,0,0⟩:=by simp [mk,nth,d0,d1,d2,d3]
      rw [hx];clear hx;obtain rfl:L=1:=hL;obtain ⟨g,rfl,hB,hg,hc⟩:=hA.cells (by simp)
      have c0:=hc 0 x0 rfl;clear hc hA;have e0:(k == 0)=false:=by simpa using d0
      have e1:(k == 1)=false:=by simpa using d1
      have e2:(k == 2)=false:=by simpa using d2
      have e3:(k == 3)=false:=by simpa using d3
      clear d0 d1 d2 d3
      go_enter Tryz.func24,Tryz.ntmps24
      go_wp2_with fail
      go_wp2
      refine bodyPost_ret (by simp [results,Tryz.results24,go_sem]) rfl ⟨rfl,?_⟩
      exact b0.alloc (Nat.le_refl _) _
abbrev Ten (g:Nat) (k n l s r a m c v p:Int) (w0 w:World):Prop :=
 w.cell? ⟨g,0,none⟩=some (.int .i64 k)∧w.cell? ⟨g,1,none⟩=some (.int .i64 n)∧w.cell? ⟨g,2,none⟩=some (.int .i64 l)∧w.cell? ⟨g,3,none⟩=some (.int .i64 s)∧w.cell? ⟨g,4,none⟩=some (.int .i64 r) ∧
 w.cell? ⟨g,5,none⟩=some (.int .i64 a)∧w.cell? ⟨g,6,none⟩=some (.int .i64 m)∧w.cell? ⟨g,7,none⟩=some (.int .i64 c)∧w.cell? ⟨g,8,none⟩=some (.int .i64 v)∧w.cell? ⟨g,9,none⟩=some (.int .i64 p)∧Below w0.heap.size w0 w
theorem keep_ten {g:Nat} {k n l s r a m c v p:Int} {w0 w1 w2:World} (h:Ten g k n l s r a m c v p w0 w1) (hb:Below w1.heap.size w1 w2):Ten g k n l s r a m c v p w0 w2:=by
 obtain ⟨h0,h1,h2,h3,h4,h5,h6,h7,h8,h9,h10⟩:=h;have hl:g<w1.heap.size:=cell_lt h0;exact ⟨by rw [hb.cell hl];exact h0,by rw [hb.cell hl];exact h1,by rw [hb.cell hl];exact h2,by rw [hb.cell hl];exact h3,by rw [hb.cell hl];exact h4,by rw [hb.cell hl];exact h5,by rw [hb.cell hl];exact h6,by rw [hb.cell hl];exact h7,by rw [hb.cell hl];exact h8,by rw [hb.cell hl];exact h9,h10.trans (hb.mono h10.size)⟩
theorem ten_below {g:Nat} {k n l s r a m c v p:Int} {w0 w1:World} (h:Ten g k n l s r a m c v p w0 w1):Below w0.heap.size w0 w1:=h.2.2.2.2.2.2.2.2.2.2
theorem ten_of {g:Nat} {k n l s r a m c v p:Int} {w:World} {t:TypeId} (h:w.heap[g]?=some (.cells #[.int .i64 k,.int .i64 n,.int .i64 l,.int .i64 s,.int .i64 r,.int .i64 a,.int .i64 m,.int .i64 c,.int .i64 v,.int .i64 p] t (0,0))):Ten g k n l s r a m c v p w w :=
 ⟨cell_of_row _ _ 0 _ _ _ h,cell_of_row _ _ 1 _ _ _ h,cell_of_row _ _ 2 _ _ _ h,cell_of_row _ _ 3 _ _ _ h,cell_of_row _ _ 4 _ _ _ h,cell_of_row _ _ 5 _ _ _ h,cell_of_row _ _ 6 _ _ _ h,cell_of_row _ _ 7 _ _ _ h,cell_of_row _ _ 8 _ _ _ h,cell_of_row _ _ 9 _ _ _ h,Below.refl _ _⟩
theorem right_any (k n l s r a m c v p:Int) (w:World) (b:Bool) (hb:b=true↔right ⟨k,n,l,s,r,a,m,c,v,p⟩) :
  Calls Tryz.prog 14 #[.agg #[.int .i64 k,.int .i64 n,.int .i64 l,.int .i64 s,.int .i64 r,.int .i64 a,.int .i64 m,.int .i64 c,.int .i64 v,.int .i64 p]] w fun e w'=>e=.returned (.bool b)∧Below w.heap.size w w':=by
 have b0:Below w.heap.size w w:=Below.refl _ _
 by_cases hlo:k<0
 ·obtain rfl:b=false:=by
   cases b
   ·rfl
   ·have:=(hb.1 rfl).1;simp at this;omega
  clear hb
  go_enter Tryz.func14,Tryz.ntmps14
  go_wp2
  go_ret
  exact ⟨rfl,b0.alloc (Nat.le_refl _) _⟩
 ·by_cases hhi:9<k
  ·obtain rfl:b=false:=by
    cases b
    ·rfl
    ·have:=(hb.1 rfl).2.1;simp at this;omega
   clear hb;have hlo':decide (k<0)=false:=by simp;omega
   clear hlo
   go_enter Tryz.func14,Tryz.ntmps14
   go_wp2
   go_ret
   exact ⟨rfl,b0.alloc (Nat.le_refl _) _⟩
  ·have hlo':decide (
             k<0)=false:=by simp;omega
   have hhi':decide (9<k)=false:=by simp;omega
   have HK:=Lib.hid (show 0≤k∧k≤9 by omega)
   have HB:=Lib.hid hb;clear hlo hhi hb
   go_enter Tryz.func14,Tryz.ntmps14
   go_wp2_with fail
   have hbox:=heap_alloc_new w (.cells #[.int .i64 k,.int .i64 n,.int .i64 l,.int .i64 s,.int .i64 r,.int .i64 a,.int .i64 m,.int .i64 c,.int .i64 v,.int .i64 p] 29);have b1:Below w.heap.size w (w.alloc (.cells #[.int .i64 k,.int .i64 n,.int .i64 l,.int .i64 s,.int .i64 r,.int .i64 a,.int .i64 m,.int .i64 c,.int .i64 v,.int .i64 p] 29)):=b0.alloc (Nat.le_refl _) _;obtain ⟨g,hg⟩:∃ g,w.heap.size=g:=⟨_,rfl⟩;rw [hg] at hbox b1
   try rw [hg]
   generalize w.alloc (.cells #[.int .i64 k,.int .i64 n,.int .i64 l,.int .i64 s,.int .i64 r,.int .i64 a,.int .i64 m,.int .i64 c,.int .i64 v,.int .i64 p] 29)=w1 at hbox b1 ⊢;refine (numbers_any k n l s r a m c v p w1).mono ?_;rintro e w2 ⟨A,L,HL,rfl,hIL,hb2⟩;obtain ⟨xs,hxs⟩:∃ xs,nums ⟨k,n,l,s,r,a,m,c,v,p⟩=xs:=⟨_,rfl⟩;rw [hxs] at HL hIL;have hL6:L≤6:=by rw [HL.out,←hxs,nums_len];exact cnt_le _
   have hbox2:=(Only.of_below (S:=fun _=>False) hb2).blk (fun q=>q) hbox;have b2:Below g w w2:=b1.trans (hb2.mono (by have:=b1.size;omega))
   have HXS:=Lib.hid hxs;have HLies:=Lib.hid hIL.lies;clear hxs hbox hb2 b1;go_wp2_with fail
   go_loop [18] (fun vi=>∃ i:Nat,vi=.int .i64 (i:Int)∧i≤L∧Hid (∀ j x,j<i→xs[j]?=some x→0≤x∧x≤2147483647)) (fun vi=>L-(intOf vi).toNat)
   case atStart=>exact ⟨0,rfl,by omega,Lib.hid (fun j x q=>absurd q (by omega))⟩
   case round =>
    obtain ⟨i,rfl,hiL,HI⟩:=hrel
    by_cases hi:i<L
    ·obtain ⟨ad,x,rfl,hab,hx,cx⟩:=HLies.out.int (i:=i) (by rw [←HL.out];exact hi)
     have HX:=Lib.hid hx;clear hx
     by_cases hbad:x<0∨2147483647<x
     ·obtain rfl:b=false:=by
       cases b
       ·rfl
       ·have:=(HB.out.1 rfl).2.2.1 x (by rw [HXS.out];exact List.mem_of_getElem? HX.out)
        omega
      go_wp2
      all_goals first
       | (go_ret;first | exact ⟨rfl,b2⟩ | exact ⟨rfl,by rw [hg];exact b2⟩)
       | (exfalso;omega)
     ·have hx0:decide (x<0)=false:=by simp;omega
      have hx1:decide (2147483647<x)=false:=by simp;omega
      have hok:0≤x∧x≤2147483647:=by omega
      have HOK:=Lib.hid hok;clear hbad hok
      go_wp2
      go_round
      case rel =>
       refine ⟨i+1,by go_num,by omega,Lib.hid (fun j y hj hy=>?_)⟩
       by_cases e:j=i
       ·subst e;rw [HX.out] at hy;cases hy;exact HOK.out
       ·exact HI.out j y (by omega) hy
      case measure=>simp [intOf];omega
    ·have hall:∀ x ∈ xs,0≤x∧x≤2147483647:=by
      intro x hx;obtain ⟨j,hj,e⟩:=List.getElem_of_mem hx;exact HI.out j x (by have:=HL.out;omega) (by rw [List.getElem?_eq_getElem hj,e])
     have HALL:=Lib.hid hall;clear hall HI;obtain ⟨⟨k1,n1,l1,s1,r1,a1,m1,c1,v1,p1⟩,hy⟩:∃ y,mk k (nth xs)=y:=⟨_,rfl⟩;have hlen:xs.length=cntE k:=by rw [←HXS.out,nums_len]
     have hk1:k1=k:=by have:=mk_k k (nth xs);rw [hy] at this;exact this
     have hr:b=true↔((⟨k1,n1,l1,s1,r1,a1,m1,c1,v1,p1⟩:Ev)=⟨k,n,l,s,r,a,m,c,v,p⟩):=by
      rw [HB.out];unfold right;rw [HXS.out];simp only [hy];exact ⟨fun q=>q.2.2.2,fun q=>⟨HK.out.1,HK.out.2,HALL.out,q⟩⟩
     simp only [Ev.mk.injEq] at hr;subst hk1;have HY:=Lib.hid hy;have HR:=Lib.hid hr;have HLEN:=Lib.hid hlen;have HIL:=Lib.hid hIL;have ten:=ten_of hbox2;have HS0:=Lib.hid (show Ten g k1 n l s r a m c v p w2 w2.drew from keep_ten ten (below_drewN (Below.refl _ _) 1))
     obtain ⟨t0,t1,t2,t3,t4,t5,t6,t7,t8,t9,_⟩:=ten;clear hy hr hlen hIL hbox2 hiL HLies HB;go_wp2_with fail
     clear hi
     by_cases e0:n=n1
     ·subst e0
      by_cases e1:l=l1
      ·subst e1
       by_cases e2:s=s1
       ·subst e2
        by_cases e3:r=r1
        ·subst e3
         by_cases e4:a=a1
         ·subst e4
          by_cases e5:m=m1
          ·subst e5
           by_cases e6:c=c1
           ·subst e6
            by_cases e7:v=v1
            ·subst e7
             by_cases e8:p=p1
             ·subst e8
              obtain rfl:b=true:=HR.out.2 (by simp)
              go_region_held3 (fun w'=>Ten g k1 n l s r a m c v p w2 w') (first | exact HS0.out | assumption | exact keep_ten (by assumption) (by assumption))
               (first | (go_at_call 24;refine (made_any k1 A L w1.heap.size xs _ HLEN.out HL.out (HIL.out.below (ten_below (by assumption)) (Nat.le_refl _))).mono ?_;rintro e w' ⟨rfl,hbw⟩;rw [HY.out]))
              have b3:Below g w w':=b2.trans ((ten_below (by assumption)).mono (by have:=b2.size;omega))
              clear t0 t1 t2 t3 t4 t5 t6 t7 t8 t9 HS0;go_wp2_with fail
              go_ret
              first | exact ⟨rfl,b3⟩ | exact ⟨rfl,by rw [hg];exact b3⟩
             ·obtain rfl:b=false:=by
               cases b
               ·rfl
               ·have:=HR.out.1 rfl
                exact absurd (show p=p1 by simp only [true_and] at this;simp_all) e8
              have d8:(p == p1)=false:=by simpa using e8
              clear e8
              go_region_held3 (fun w'=>Ten g k1 n l s r a m c v p w2 w') (first | exact HS0.out | assumption | exact keep_ten (by assumption) (by assumption))
               (first | (go_at_call 24;refine (made_any k1 A L w1.heap.size xs _ HLEN.out HL.out (HIL.out.below (ten_below (by assumption)) (Nat.le_refl _))).mono ?_;rintro e w' ⟨rfl,hbw⟩;rw [HY.out]))
              have b3:Below g w w':=b2.trans ((ten_below (by assumption)).mono (by have:=b2.size;omega))
              clear t0 t1 t2 t3 t4 t5 t6 t7 t8 t9 HS0;go_wp2_with fail
              go_ret
              first | exact ⟨rfl,b3⟩ | exact ⟨rfl,by rw [hg];exact b3⟩
            ·obtain rfl:b=false:=by
              cases b
              ·rfl
              ·have:=HR.out.1 rfl
               exact absurd (show v=v1 by simp only [true_and] at this;simp_all) e7
             have d7:(v == v1)=false:=by simpa using e7
             clear e7
             go_region_held3 (fun w'=>Ten g k1 n l s r a m c v p w2 w') (first | exact HS0.out | assumption | exact keep_ten (by assumption) (by assumption))
              (first | (go_at_call 24;refine (made_any k1 A L w1.heap.size xs _ HLEN.out HL.out (HIL.out.below (ten_below (by assumption)) (Nat.le_refl _))).mono ?_;rintro e w' ⟨rfl,hbw⟩;rw [HY.out]))
             have b3:Below g w w':=b2.trans ((ten_below (by assumption)).mono (by have:=b2.size;omega))
             clear t0 t1 t2 t3 t4 t5 t6 t7 t8 t9 HS0;go_wp2_with fail
             go_ret
             first | exact ⟨rfl,b3⟩ | exact ⟨rfl,by rw [hg];exact b3⟩
           ·obtain rfl:b=false:=by
             cases b
             ·rfl
             ·have:=HR.out.1 rfl
              exact absurd (show c=c1 by simp only [true_and] at this;simp_all) e6
            have d6:(c == c1)=false:=by simpa using e6
            clear e6
            go_region_held3 (fun w'=>Ten g k1 n l s r a m c v p w2 w') (first | exact HS0.out | assumption | exact keep_ten (by assumption) (by assumption))
             (first | (go_at_call 24;refine (made_any k1 A L w1.heap.size xs _ HLEN.out HL.out (HIL.out.below (ten_below (by assumption)) (Nat.le_refl _))).mono ?_;rintro e w' ⟨rfl,hbw⟩;rw [HY.out]))
            have b3:Below g w w':=b2.trans ((ten_below (by assumption)).mono (by have:=b2.size;omega))
            clear t0 t1 t2 t3 t4 t5 t6 t7 t8 t9 HS0;go_wp2_with fail
            go_ret
            first | exact ⟨rfl,b3⟩ | exact ⟨rfl,by rw [hg];exact b3⟩
          ·obtain rfl:b=false:=by
            cases b
            ·rfl
            ·have:=HR.out.1 rfl
             exact absurd (show m=m1 by simp only [true_and] at this;simp_all) e5
           have d5:(m == m1)=false:=by simpa using e5
           clear e5
           go_region_held3 (fun w'=>Ten g k1 n l s r a m c v p w2 w') (first | exact HS0.out | assumption | exact keep_ten (by assumption) (by assumption))
            (first | (go_at_call 24;refine (made_any k1 A L w1.heap.size xs _ HLEN.out HL.out (HIL.out.below (ten_below (by assumption)) (Nat.le_refl _))).mono ?_;rintro e w' ⟨rfl,hbw⟩;rw [HY.out]))
           have b3:Below g w w':=b2.trans ((ten_below (by assumption)).mono (by have:=b2.size;omega))
           clear t0 t1 t2 t3 t4 t5 t6 t7 t8 t9 HS0;go_wp2_with fail
           go_ret
           first | exact ⟨rfl,b3⟩ | exact ⟨rfl,by rw [hg];exact b3⟩
         ·obtain rfl:b=false:=by
           cases b
           ·rfl
           ·have:=HR.out.1 rfl
            exact absurd (show a=a1 by simp only [true_and] at this;simp_all) e4
          have d4:(a == a1)=false:=by simpa using e4
          clear e4
          go_region_held3 (fun w'=>Ten g k1 n l s r a m c v p w2 w') (first | exact HS0.out | assumption | exact keep_ten (by assumption) (by assumption))
           (first | (go_at_call 24;refine (made_any k1 A L w1.heap.size xs _ HLEN.out HL.out (HIL.out.below (ten_below (by assumption)) (Nat.le_refl _))).mono ?_;rintro e w' ⟨rfl,hbw⟩;rw [HY.out]))
          have b3:Below g w w':=b2.trans ((ten_below (by assumption)).mono (by have:=b2.size;omega))
          clear t0 t1 t2 t3 t4 t5 t6 t7 t8 t9 HS0;go_wp2_with fail
          go_ret
          first | exact ⟨rfl,b3⟩ | exact ⟨rfl,by rw [hg];exact b3⟩
        ·obtain rfl:b=false:=by
          cases b
          ·rfl
          ·have:=HR.out.1 rfl
           exact absurd (show r=r1 by simp only [true_and] at this;simp_all) e3
         have d3:(r == r1)=false:=by simpa using e3
         clear e3
         go_region_held3 (fun w'=>Ten g k1 n l s r a m c v p w2 w') (first | exact HS0.out | assumption | exact keep_ten (by assumption) (by assumption))
          (first | (go_at_call 24;refine (made_any k1 A L w1.heap.size xs _ HLEN.out HL.out (HIL.out.below (ten_below (by assumption)) (Nat.le_refl _))).mono ?_;rintro e w' ⟨rfl,hbw⟩;rw [HY.out]))
         have b3:Below g w w':=b2.trans ((ten_below (by assumption)).mono (by have:=b2.size;omega))
         clear t0 t1 t2 t3 t4 t5 t6 t7 t8 t9 HS0;go_wp2_with fail
         go_ret
         first | exact ⟨rfl,b3⟩ | exact ⟨rfl,by rw [hg];exact b3⟩
       ·obtain rfl:b=false:=by
         cases b
         ·rfl
         ·have:=HR.out.1 rfl
          exact absurd (show s=s1 by simp only [true_and] at this;simp_all) e2
        have d2:(s == s1)=false:=by simpa using e2
        clear e2
        go_region_held3 (fun w'=>Ten g k1 n l s r a m c v p w2 w') (first | exact HS0.out | assumption | exact keep_ten (by assumption) (by assumption))
         (first | (go_at_call 24;refine (made_any k1 A L w1.heap.size xs _ HLEN.out HL.out (HIL.out.below (ten_below (by assumption)) (Nat.le_refl _))).mono ?_;rintro e w' ⟨rfl,hbw⟩;rw [HY.out]))
        have b3:Below g w w':=b2.trans ((ten_below (by assumption)).mono (by have:=b2.size;omega))
        clear t0 t1 t2 t3 t4 t5 t6 t7 t8 t9 HS0;go_wp2_with fail
        go_ret
        first | exact ⟨rfl,b3⟩ | exact ⟨rfl,by rw [hg];exact b3⟩
      ·obtain rfl:b=false:=by
        cases b
        ·rfl
        ·have:=HR.out.1 rfl
         exact absurd (show l=l1 by simp only [true_and] at this;simp_all) e1
       have d1:(l == l1)=false:=by simpa using e1
       clear e1
       go_region_held3 (fun w'=>Ten g k1 n l s r a m c v p w2 w') (first | exact HS0.out | assumption | exact keep_ten (by assumption) (by assumption))
        (first | (go_at_call 24;refine (made_any k1 A L w1.heap.size xs _ HLEN.out HL.out (HIL.out.below (ten_below (by assumption)) (Nat.le_refl _))).mono ?_;rintro e w' ⟨rfl,hbw⟩;rw [HY.out]))
       have b3:Below g w w':=b2.trans ((ten_below (by assumption)).mono (by have:=b2.size;omega))
       clear t0 t1 t2 t3 t4 t5 t6 t7 t8 t9 HS0;go_wp2_with fail
       go_ret
       first | exact ⟨rfl,b3⟩ | exact ⟨rfl,by rw [hg];exact b3⟩
     ·obtain rfl:b=false:=by
       cases b
       ·rfl
       ·have:=HR.out.1 rfl
        exact absurd (show n=n1 by simp only [true_and] at this;simp_all) e0
      have d0:(n == n1)=false:=by simpa using e0
      clear e0
      go_region_held3 (fun w'=>Ten g k1 n l s r a m c v p w2 w') (first | exact HS0.out | assumption | exact keep_ten (by assumption) (by assumption))
       (first | (go_at_call 24;refine (made_any k1 A L w1.heap.size xs _ HLEN.out HL.out (HIL.out.below (ten_below (by assumption)) (Nat.le_refl _))).mono ?_;rintro e w' ⟨rfl,hbw⟩;rw [HY.out]))
      have b3:Below g w w':=b2.trans ((ten_below (by assumption)).mono (by have:=b2.size;omega))
      clear t0 t1 t2 t3 t4 t5 t6 t7 t8 t9 HS0;go_wp2_with fail
      go_ret
      first | exact ⟨rfl,b3⟩ | exact ⟨rfl,by rw [hg];exact b3⟩
end Go.Proofs.YthdengocipfgiaaGreat.W
