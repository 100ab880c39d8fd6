import Derived.Test.YthdengocipfgiaaGreatCaL
import Derived.BigRegion
import Derived.Deep.RegionHeld3
/- A part of what core's laws stand on. -/
set_option linter.unusedVariables false
set_option linter.unusedSimpArgs false
set_option maxRecDepth 100000
set_option maxHeartbeats 1600000
namespace Go.Proofs.YthdengocipfgiaaGreat.W.HT
open Go.RowKit
theorem lt_at {x y:V} (h:x.1≠y.1):lt x y=decide (x.1<y.1):=by
 unfold lt
 by_cases e:x.1<y.1
 ·rw [decide_eq_true e];exact decide_eq_true (Or.inl e)
 ·rw [decide_eq_false e];exact decide_eq_false (by omega)
theorem lt_kind {x y:V} (h:x.1=y.1) (h':x.2.1≠y.2.1):lt x y=decide (x.2.1<y.2.1):=by
 unfold lt
 by_cases e:x.2.1<y.2.1
 ·rw [decide_eq_true e];exact decide_eq_true (by omega)
 ·rw [decide_eq_false e];exact decide_eq_false (by omega)
theorem lt_id {x y:V} (h:x.1=y.1) (h':x.2.1=y.2.1):lt x y=decide (x.2.2<y.2.2):=by
 unfold lt
 by_cases e:x.2.2<y.2.2
 ·rw [decide_eq_true e];exact decide_eq_true (by omega)
 ·rw [decide_eq_false e];exact decide_eq_false (by omega)
theorem sooner_any (x y:V) (w:World) :
  Calls Tryz.prog 60 #[vv x,vv y] w fun e w'=>e=.returned (.bool (lt x y))∧Below w.heap.size w w':=by
 obtain ⟨a,b,c⟩:=x;obtain ⟨a',b',c'⟩:=y
 by_cases h:a=a'
 ·by_cases h':b=b'
  ·subst h h'
   rw [lt_id (x:=(a,b,c)) (y:=(a,b,c')) rfl rfl]
   go_enter Tryz.func60,Tryz.ntmps60
   go_wp2_with fail
   go_ret
   exact ⟨rfl,((Below.refl _ _).alloc (Nat.le_refl _) _).alloc (by simp <;> omega) _⟩
  ·subst h
   rw [lt_kind (x:=(a,b,c)) (y:=(a,b',c')) rfl h'];have hq:(b == b')=false:=by simp [h']
   go_enter Tryz.func60,Tryz.ntmps60
   go_wp2_with fail
   go_ret
   exact ⟨rfl,((Below.refl _ _).alloc (Nat.le_refl _) _).alloc (by simp <;> omega) _⟩
 ·rw [lt_at (x:=(a,b,c)) (y:=(a',b',c')) h]
  have hq:(a == a')=false:=by simp [h]
  go_enter Tryz.func60,Tryz.ntmps60
  go_wp2_with fail
  go_ret
  exact ⟨rfl,((Below.refl _ _).alloc (Nat.le_refl _) _).alloc (by simp <;> omega) _⟩
abbrev FS:Value:=.func (.func 60) #[] #[]
theorem less_s (r:Nat):Less r FS (fun _=>False) (fun _ _=>True):=by
 refine ⟨fun w m x y hc _ _ hx hy=>?_,fun _ _ _ _ _ _ _=>trivial⟩;have hfn:=fun w=>run_neq_func_nil (P:=Tryz.prog) Tryz.underlying132 w (.func 60) #[] #[];have hcall:=fun w=>sooner_any x y w;obtain ⟨bb,hbb⟩:∃ bb,lt x y=bb:=⟨_,rfl⟩;rw [hbb] at hcall ⊢;clear hbb
 go_enter Tryz.func177,Tryz.ntmps177
 go_upto_region 1 with (fail)
 have hb0:Below w.heap.size w ((w.alloc (.cells #[.int .i64 x.1,.int .i64 x.2.1,.int .i64 x.2.2] 107)).alloc (.cells #[.int .i64 y.1,.int .i64 y.2.1,.int .i64 y.2.2] 107)):=((Below.refl w.heap.size w).alloc (Nat.le_refl _) _).alloc (by simp <;> omega) _
 have hc0:=(Only.of_below (S:=fun _=>False) hb0).cell (x:=⟨r,0,none⟩) (fun q=>q) hc;have ho1:((w.alloc (.cells #[.int .i64 x.1,.int .i64 x.2.1,.int .i64 x.2.2] 107)).alloc (.cells #[.int .i64 y.1,.int .i64 y.2.1,.int .i64 y.2.2] 107)).heap[w.heap.size]?=some (.cells #[.int .i64 x.1,.int .i64 x.2.1,.int .i64 x.2.2] 107):=(Only.alloc (Only.refl _ (fun _=>False)) _).blk (fun q=>q) (heap_alloc_new w _)
 have ho2:((w.alloc (.cells #[.int .i64 x.1,.int .i64 x.2.1,.int .i64 x.2.2] 107)).alloc (.cells #[.int .i64 y.1,.int .i64 y.2.1,.int .i64 y.2.2] 107)).heap[w.heap.size+1]?=some (.cells #[.int .i64 y.1,.int .i64 y.2.1,.int .i64 y.2.2] 107):=by
  have:=heap_alloc_new (w.alloc (.cells #[.int .i64 x.1,.int .i64 x.2.1,.int .i64 x.2.2] 107)) (.cells #[.int .i64 y.1,.int .i64 y.2.1,.int .i64 y.2.2] 107)
  rwa [World.size_alloc] at this
 generalize ((w.alloc (.cells #[.int .i64 x.1,.int .i64 x.2.1,.int .i64 x.2.2] 107)).alloc (.cells #[.int .i64 y.1,.int .i64 y.2.1,.int .i64 y.2.2] 107))=w1 at hb0 hc0 ho1 ho2 ⊢;have y0:=cell_of_row _ _ 0 _ _ _ ho1;have y1:=cell_of_row _ _ 1 _ _ _ ho1;have y2:=cell_of_row _ _ 2 _ _ _ ho1;have z0:=cell_of_row _ _ 0 _ _ _ ho2;have z1:=cell_of_row _ _ 1 _ _ _ ho2;have z2:=cell_of_row _ _ 2 _ _ _ ho2;clear hc
 go_still_tail 12,(by kernel_rfl)
 change wpList _ _ _ _ _ w1.drew;have hb1:Below w.heap.size w w1.drew:=below_drewN hb0 1;clear y0 y1 y2 z0 z1 z2 hc0 hb0;generalize w1.drew=w2 at hb1 ⊢;go_wp2_with fail
 refine (hcall _).mono ?_;rintro e w' ⟨rfl,hb⟩;go_wp2_with fail
 go_ret
 exact ⟨rfl,trivial,Only.of_below (hb1.trans (hb.mono hb1.size))⟩
theorem sizeK:(Tryz.prog.info? 77).map (·.size)=some 2:=by kernel_rfl
theorem wpList_store_key {w:World} {ops:Array Oper} {rest:List Oper} {o:Oper} {a:Act} {Q:Exit→Act→World→Prop} (hgd:o.guard=none) (x y:Operand) (ho:o.op=.store 77 x y)
  (g:Nat) (p q:Int) (hx:a.eval x=.pointer (some ⟨g,0,none⟩)) (hy:a.eval y=.agg #[.int .i64 p,.int .i64 q]) (i j:Int)
  (HG:Hid (w.heap[g]?=some (.cells #[.int .i64 i,.int .i64 j] 77 (0,0))))
  (hn:∀ w',Hid (w'.heap[g]?=some (.cells #[.int .i64 p,.int .i64 q] 77 (0,0)))→w.grownBy w' (some g)→wpList Tryz.prog ops Q rest (a.put o.dst undef) w'):wpList Tryz.prog ops Q (o :: rest) a w:=by
 refine wpList_store_row hgd _ x y ho g _ hx hy _ _ HG.out sizeK rfl (by simp [Value.oneCell']) ?_
 exact hn _ (Lib.hid (show _=_ from setRow_heap w g _ _ _ _ HG.out)) ⟨rfl,rfl,rfl,by simp [World.setRow],fun k _ hk=>setRow_other w g k _ (by intro e;exact hk (by rw [e]))⟩
theorem min_none (r:Nat) (Fv:Value) (A:K→Option V) (X:Nat→Prop) (w:World) (h:Ob w r Fv 0 A X) :
  Calls Tryz.prog 154 #[.pointer (some ⟨r,0,none⟩)] w fun e w'=>e=.returned (.tuple #[.agg #[.int .i64 0,.int .i64 0],.agg #[.int .i64 0,.int .i64 0,.int .i64 0],.bool false])∧Below w.heap.size w w':=by
 obtain ⟨G,B,sv,T,M,h,h1,h2,h3,h4⟩:=h;have c1:=cell_of_row _ _ 1 _ _ _ h.blk;have hrlt:=lt_of_row h.blk;obtain ⟨A1,cap,rfl,hc1,hc2⟩:=h.its.slice
 go_enter Tryz.func154,Tryz.ntmps154
 go_wp2
 go_region
 go_wp2
 exact bodyPost_ret (v:=.tuple #[.agg #[.int .i64 0,.int .i64 0],.agg #[.int .i64 0,.int .i64 0,.int .i64 0],.bool false]) (by simp [results,Tryz.results154,go_sem]) rfl ⟨rfl,below_drewN ((((Below.refl w.heap.size w).alloc (Nat.le_refl _) _).alloc (by simp <;> omega) _).alloc (by simp <;> omega) _) 1⟩
theorem min_some (r:Nat) (Fv:Value) (n:Nat) (A:K→Option V) (X:Nat→Prop) (w:World) (h:Ob w r Fv n A X) (hn:0<n) (hn2:n<1073741824) :
  Calls Tryz.prog 154 #[.pointer (some ⟨r,0,none⟩)] w fun e w'=>∃ (k:K) (v:V),e=.returned (.tuple #[kv k,vv v,.bool true])∧A k=some v∧(∀ k' v',A k'=some v'→lt v' v=false)∧Below w.heap.size w w':=by
 obtain ⟨G,B,sv,T,M,h,h1,h2,h3,h4⟩:=h;have c1:=cell_of_row _ _ 1 _ _ _ h.blk;have hrlt:=lt_of_row h.blk;obtain ⟨g,cap,hG,rfl,hrow⟩:=h.its.some_ hn;have hglt:=hrow.lt;obtain ⟨⟨k,v⟩,hT⟩:∃ x,T 0=x:=⟨_,rfl⟩;have hmin:=h.full.mn odr hn;rw [hT] at hmin;have x0:w.cell? ⟨g,0,none⟩=some (.int .i64 k.1):=hrow.cell (c:=0) hn (by rw [hT];rfl) rfl
 have x1:w.cell? ⟨g,1,none⟩=some (.int .i64 k.2):=hrow.cell (c:=1) hn (by rw [hT];rfl) rfl
 have x2:w.cell? ⟨g,2,none⟩=some (.int .i64 v.1):=hrow.cell (c:=2) hn (by rw [hT];rfl) rfl
 have x3:w.cell? ⟨g,3,none⟩=some (.int .i64 v.2.1):=hrow.cell (c:=3) hn (by rw [hT];rfl) rfl
 have x4:w.cell? ⟨g,4,none⟩=some (.int .i64 v.2.2):=hrow.cell (c:=4) hn (by rw [hT];rfl) rfl
 have hn0:(0:Int)<(n:Int):=by omega
 have hnz:((n:Int) == 0)=false:=by simp;omega
 have HMN:=Lib.hid hmin;clear hmin hT
 go_enter Tryz.func154,Tryz.ntmps154
 go_wp2
 go_region
 go_wp2
 exact bodyPost_ret (v:=.tuple #[kv k,vv v,.bool true]) (by simp [results,Tryz.results154,go_sem]) rfl ⟨k,v,rfl,HMN.out.1,HMN.out.2,below_drewN (((Below.refl w.heap.size w).alloc (Nat.le_refl _) _).alloc (by simp <;> omega) _) 1⟩
theorem sizePt:(Tryz.prog.info? 109).map (·.size)=some 1:=by kernel_rfl
theorem len1_0 (a:Value):0 < [a].length:=by simp
def Mo (A:K→Option Int):K→Option V:=fun k=>(A k).map (fun t=>(t,k))
theorem Mo_put (A:K→Option Int) (k:K) (t:Int):updZ (Mo A) k (some (t,k))=Mo (updZ A k (some t)):=by
 funext j;unfold Mo updZ;split
 ·rename_i e;subst e;rfl
 ·rfl
theorem Mo_del (A:K→Option Int) (k:K):updZ (Mo A) k none=Mo (updZ A k none):=by
 funext j;unfold Mo updZ;split <;> rfl
theorem Mo_at {A:K→Option Int} {k:K} {t:Int} (h:A k=some t):Mo A k=some (t,k):=by unfold Mo;rw [h];rfl
theorem Mo_no {A:K→Option Int} {k:K} (h:A k=none):Mo A k=none:=by unfold Mo;rw [h];rfl
theorem Mo_is (A:K→Option Int) (k:K):(Mo A k).isSome=(A k).isSome:=by unfold Mo;cases A k <;> rfl
theorem Mo_inv {A:K→Option Int} {k:K} {v:V} (h:Mo A k=some v):A k=some v.1∧v.2=k:=by
 unfold Mo at h
 cases q:A k with
 | none=>rw [q] at h;cases h
 | some t=>rw [q] at h;cases h;exact ⟨rfl,rfl⟩
structure Ta (w:World) (c r n:Nat) (A:K→Option Int) (Y:Nat→Prop):Prop where
 blk:w.heap[c]?=some (.cells #[.pointer (some ⟨r,0,none⟩)] 113 (0,0))
 ob:Ob w r FS n (Mo A) Y
 ne:¬ Y c
def Tq (P:Nat→Prop) (w:World) (c n:Nat) (A:K→Option Int):Prop :=
 P c∧((w.heap[c]?=some (.cells #[.pointer none] 113 (0,0))∧n=0∧A=fun _=>none)∨∃ r Y,Ta w c r n A Y∧∀ j,Y j→P j)
theorem Ta.kept {w w':World} {c r n:Nat} {A:K→Option Int} {Y S:Nat→Prop} (h:Ta w c r n A Y) (ho:Only w w' S) (hc:¬ S c) (hd:∀ j,Y j→¬ S j):Ta w' c r n A Y:=⟨ho.blk hc h.blk,h.ob.kept ho hd,h.ne⟩
theorem Tq.lt {P:Nat→Prop} {w:World} {c n:Nat} {A:K→Option Int} (h:Tq P w c n A):c<w.heap.size:=by
 rcases h.2 with h | ⟨r,Y,h,_⟩
 ·exact lt_of_row h.1
 ·exact lt_of_row h.blk
theorem Tq.kept {P S:Nat→Prop} {w w':World} {c n:Nat} {A:K→Option Int} (h:Tq P w c n A) (ho:Only w w' S) (hd:∀ j,P j→¬ S j):Tq P w' c n A:=by
 refine ⟨h.1,?_⟩
 rcases h.2 with ⟨h1,h2⟩ | ⟨r,Y,h1,h2⟩
 ·exact Or.inl ⟨ho.blk (hd c h.1) h1,h2⟩
 ·exact Or.inr ⟨r,Y,h1.kept ho (hd c h.1) (fun j q=>hd j (h2 j q)),h2⟩
theorem Tq.below {P:Nat→Prop} {w w':World} {c n:Nat} {A:K→Option Int} (h:Tq P w c n A) (hb:Below w.heap.size w w'):Tq P w' c n A:=h.kept (Only.of_below (S:=fun _=>False) hb) (fun _ _ q=>q)
theorem Tq.mono {P P':Nat→Prop} {w:World} {c n:Nat} {A:K→Option Int} (h:Tq P w c n A) (hp:∀ j,P j→P' j):Tq P' w c n A:=by
 refine ⟨hp c h.1,?_⟩
 rcases h.2 with h1 | ⟨r,Y,h1,h2⟩
 ·exact Or.inl h1
 ·exact Or.inr ⟨r,Y,h1,fun j q=>hp j (h2 j q)⟩
theorem Tq.tight {P:Nat→Prop} {w:World} {c n:Nat} {A:K→Option Int} (h:Tq P w c n A):Tq (fun j=>P j∧j<w.heap.size) w c n A:=by
 refine ⟨⟨h.1,h.lt⟩,?_⟩
 rcases h.2 with h1 | ⟨r,Y,h1,h2⟩
 ·exact Or.inl h1
 ·exact Or.inr ⟨r,Y,h1,fun j q=>⟨h2 j q,h1.ob.lt j q⟩⟩
theorem Tq.okA {P:Nat→Prop} {w:World} {c n:Nat} {A:K→Option Int} (h:Tq P w c n A) {k:K} {t:Int} (hk:A k=some t):(Lit.int .i64 t).wf=true∧kw k∧0<n:=by
 rcases h.2 with ⟨_,_,h1⟩ | ⟨r,Y,h1,h2⟩
 ·rw [h1] at hk;cases hk
 ·have:=h1.ob.okV (Mo_at hk);exact ⟨this.1.1,this.2,h1.ob.pos (Mo_at hk)⟩
theorem Tq.zero {P:Nat→Prop} {w:World} {c:Nat} {A:K→Option Int} (h:Tq P w c 0 A) (k:K):A k=none:=by
 rcases h.2 with ⟨_,_,h1⟩ | ⟨r,Y,h1,h2⟩
 ·rw [h1]
 ·cases q:A k with
  | none=>rfl
  | some t=>have:=h1.ob.zero k;rw [Mo_at q] at this;cases this
theorem Tq.some_ {P:Nat→Prop} {w:World} {c n:Nat} {A:K→Option Int} (h:Tq P w c n A) (hn:0<n):∃ k t,A k=some t:=by
 rcases h.2 with ⟨_,h1,_⟩ | ⟨r,Y,h1,h2⟩
 ·omega
 ·obtain ⟨k,v,q⟩:=h1.ob.some_ hn
  exact ⟨k,v.1,(Mo_inv q).1⟩
theorem t_new (w:World):Calls Tryz.prog 27 #[] w fun e w'=>e=.returned (.pointer (some ⟨w.heap.size,0,none⟩))∧Tq (fun j=>j=w.heap.size) w' w.heap.size 0 (fun _=>none)∧Below w.heap.size w w':=by
 go_enter Tryz.func27,Tryz.ntmps27
 go_wp2
 go_ret
 exact ⟨rfl,⟨rfl,Or.inl ⟨heap_alloc_new w _,rfl,rfl⟩⟩,(Below.refl _ _).alloc (Nat.le_refl _) _⟩
theorem all_any {P:Nat→Prop} (w:World) (c n:Nat) (A:K→Option Int) (h:Tq P w c n A) (hP:∀ j,w.heap.size≤j→P j) :
  Calls Tryz.prog 38 #[.pointer (some ⟨c,0,none⟩)] w fun e w'=>∃ r Y,e=.returned (.pointer (some ⟨r,0,none⟩))∧Ta w' c r n A Y∧(∀ j,Y j→P j)∧Only w w' (fun j=>j=c):=by
 rcases h.2 with ⟨h1,h2,h3⟩ | ⟨r,Y,h1,h2⟩
 ·have c0:=cell_of_row _ _ 0 _ _ _ h1
  have HB:=Lib.hid h1;have hclt:=lt_of_row h1;clear h1
  go_enter Tryz.func38,Tryz.ntmps38
  go_wp2_with fail
  refine (new_any _ _ _ w).mono ?_;rintro e w1 ⟨rfl,ob1,b1⟩;have ho1:Only w w1 (fun j=>j=c):=Only.of_below b1;have HB1:=Lib.hid ((Only.of_below (S:=fun _=>False) b1).blk (fun q=>q) HB.out);clear c0;go_upto_region 3 with (with_reducible refine wpList_store_one rfl 109 (.tmp 11) (.tmp 9) rfl sizePt c 0 rfl (.pointer (some ⟨w.heap.size,0,none⟩)) rfl (cells_ptr _) (one_ptr _) [.pointer none] 113 HB1.out (len1_0 _) ?_;intro w2 HB2 hg2)
  have ho2:Only w1 w2 (fun j=>j=c):=Only.grown hg2 (Or.inl rfl);have HB3:Hid (w2.heap[c]?=some (.cells #[.pointer (some ⟨w.heap.size,0,none⟩)] 113 (0,0))):=HB2;have c0:=cell_of_row _ _ 0 _ _ _ HB3.out;go_wp2_with fail
  go_ret
  refine ⟨w.heap.size,_,rfl,⟨HB3.out,by rw [h2,h3];exact ob1.kept ho2 (fun j q e=>by omega),by omega⟩,fun j q=>hP j (by omega),ho1.tr ho2⟩
 ·have c0:=cell_of_row _ _ 0 _ _ _ h1.blk
  go_enter Tryz.func38,Tryz.ntmps38
  go_wp2_with fail
  go_ret
  exact ⟨r,Y,rfl,h1,h2,Only.refl _ _⟩
theorem Ta.turned {P:Nat→Prop} {w w':World} {c r n n1:Nat} {A B:K→Option Int} {Y Y':Nat→Prop} (h:Ta w c r n A Y) (hY:∀ j,Y j→P j) (hP:∀ j,w.heap.size≤j→P j) (g1:Ob w' r FS n1 (Mo B) Y') (g2:∀ j,Y' j→Y j∨w.heap.size≤j) (g5:Only w w' (fun j=>Y j∨False)) :
  Ta w' c r n1 B Y'∧∀ j,Y' j→P j:=by
 have hc:=lt_of_row h.blk;refine ⟨⟨g5.blk (fun q=>q.elim h.ne id) h.blk,g1,fun q=>?_⟩,fun j q=>?_⟩
 ·rcases g2 c q with q | q
  ·exact h.ne q
  ·omega
 ·rcases g2 j q with q | q
  ·exact hY j q
  ·exact hP j q
theorem t_set {P:Nat→Prop} (w:World) (c n:Nat) (A:K→Option Int) (k:K) (t:Int) (h:Tq P w c n A) (hk:kw k) (ht:(Lit.int .i64 t).wf=true) (hn:n<1073741823) (n':Nat) (hn':n'=if (A k).isSome then n else n+1) (hP:∀ j,w.heap.size≤j→P j) :
    Calls Tryz.prog 153 #[.pointer (some ⟨c,0,none⟩),kv k,.int .i64 t] w fun e w'=>e=.returned (.tuple #[])∧Tq P w' c n' (updZ A k (some t))∧Only w w' P:=by
  have hn2:n'=if (Mo A k).isSome then n else n+1:=by rw [Mo_is];exact hn'
  have HN':=Lib.hid hn2;have hokv:ok (t,k):=⟨ht,hk⟩;clear hn' hn2
  go_enter Tryz.func153,Tryz.ntmps153
  go_upto_region 1 with (fail)
  have b1:Below w.heap.size w (w.alloc (.cells #[.int .i64 k.1,.int .i64 k.2] 77)):=(Below.refl _ _).alloc (Nat.le_refl _) _;have HBX:=Lib.hid (heap_alloc_new w (.cells #[.int .i64 k.1,.int .i64 k.2] 77));obtain ⟨H,hH⟩:∃ H,w.heap.size=H:=⟨_,rfl⟩;have hx:Tq (fun j=>P j∧j≠H) (w.alloc (.cells #[.int .i64 k.1,.int .i64 k.2] 77)) c n A:=(h.tight.below b1).mono (fun j q=>⟨q.1,by omega⟩)
  have hHc:H≠c:=by have:=h.lt;omega
  have hHw:w.heap.size≤H:=by omega
  rw [hH] at HBX;rw [hH];clear hH h;have hHlt:=lt_of_row HBX.out;generalize w.alloc (.cells #[.int .i64 k.1,.int .i64 k.2] 77)=w1 at b1 HBX hx hHlt ⊢;have hPx:∀ j,w1.heap.size≤j→(fun j=>P j∧j≠H) j:=fun j q=>⟨hP j (Nat.le_trans b1.size q),by omega⟩
  have hPd:∀ j,w1.drew.heap.size≤j→(fun j=>P j∧j≠H) j:=hPx;have hxd:Tq (fun j=>P j∧j≠H) w1.drew c n A:=hx.kept ((Only.refl w1 (fun _=>False)).drewN 1) (fun _ _ q=>q);have e0:=cell_of_row _ _ 0 _ _ _ HBX.out;have e1:=cell_of_row _ _ 1 _ _ _ HBX.out;have e0d:w1.drew.cell? ⟨H,0,none⟩=some (.int .i64 k.1):=e0;have e1d:w1.drew.cell? ⟨H,1,none⟩=some (.int .i64 k.2):=e1
  go_region_with (first
    | (go_at_call 38;refine (all_any _ c n A hxd hPd).mono ?_;rintro e w3 ⟨r,Y,rfl,h3,h4,o3⟩;have f0:=o3.cell (x:=⟨H,0,none⟩) hHc e0d;have f1:=o3.cell (x:=⟨H,1,none⟩) hHc e1d)
    | (go_at_call 176;refine (set_any (less_s r) n (Mo A) Y k (t,k) _ h3.ob hk hokv hn 0 (by decide) trivial (fun _ q=>q.elim) (fun _ q=>q.elim) n' HN'.out).mono ?_;rintro e w4 ⟨rfl,Y',a,g1,g2,_,_,g5⟩))
  all_goals
    (
     go_wp2_with fail
     go_end0
     rw [Mo_put] at g1;obtain ⟨h5,h6⟩:=h3.turned h4 (fun j q=>hPd j (Nat.le_trans o3.size q)) g1 g2 g5;exact ⟨rfl,⟨hx.1.1,Or.inr ⟨r,Y',h5,fun j q=>(h6 j q).1⟩⟩,(((Only.of_below (S:=P) b1).drewN 1).tr (o3.mono (fun j q=>by rw [q];exact hx.1.1))).tr (g5.mono (fun j q=>q.elim (fun q=>(h4 j q).1) (fun q=>q.elim)))⟩)
theorem t_drop0 {P:Nat→Prop} (w:World) (c n:Nat) (A:K→Option Int) (k:K) (h:Tq P w c n A) (hk:kw k) (hA:A k=none) (hP:∀ j,w.heap.size≤j→P j) :
    Calls Tryz.prog 65 #[.pointer (some ⟨c,0,none⟩),kv k] w fun e w'=>e=.returned (.bool false)∧Tq P w' c n A∧Only w w' P:=by
  have HA:=Lib.hid (Mo_no hA);clear hA
  go_enter Tryz.func65,Tryz.ntmps65
  go_upto_region 1 with (fail)
  have b1:Below w.heap.size w (w.alloc (.cells #[.int .i64 k.1,.int .i64 k.2] 77)):=(Below.refl _ _).alloc (Nat.le_refl _) _;have HBX:=Lib.hid (heap_alloc_new w (.cells #[.int .i64 k.1,.int .i64 k.2] 77));obtain ⟨H,hH⟩:∃ H,w.heap.size=H:=⟨_,rfl⟩;have hx:Tq (fun j=>P j∧j≠H) (w.alloc (.cells #[.int .i64 k.1,.int .i64 k.2] 77)) c n A:=(h.tight.below b1).mono (fun j q=>⟨q.1,by omega⟩)
  have hHc:H≠c:=by have:=h.lt;omega
  have hHw:w.heap.size≤H:=by omega
  rw [hH] at HBX;rw [hH];clear hH h;have hHlt:=lt_of_row HBX.out;generalize w.alloc (.cells #[.int .i64 k.1,.int .i64 k.2] 77)=w1 at b1 HBX hx hHlt ⊢;have hPx:∀ j,w1.heap.size≤j→(fun j=>P j∧j≠H) j:=fun j q=>⟨hP j (Nat.le_trans b1.size q),by omega⟩
  have hPd:∀ j,w1.drew.heap.size≤j→(fun j=>P j∧j≠H) j:=hPx;have hxd:Tq (fun j=>P j∧j≠H) w1.drew c n A:=hx.kept ((Only.refl w1 (fun _=>False)).drewN 1) (fun _ _ q=>q);have e0:=cell_of_row _ _ 0 _ _ _ HBX.out;have e1:=cell_of_row _ _ 1 _ _ _ HBX.out;have e0d:w1.drew.cell? ⟨H,0,none⟩=some (.int .i64 k.1):=e0;have e1d:w1.drew.cell? ⟨H,1,none⟩=some (.int .i64 k.2):=e1
  go_region_with (first
    | (go_at_call 38;refine (all_any _ c n A hxd hPd).mono ?_;rintro e w3 ⟨r,Y,rfl,h3,h4,o3⟩;have f0:=o3.cell (x:=⟨H,0,none⟩) hHc e0d;have f1:=o3.cell (x:=⟨H,1,none⟩) hHc e1d)
    | (go_at_call 109;refine (drop_none n (Mo A) Y k _ h3.ob hk HA.out).mono ?_;rintro e w4 ⟨rfl,g5⟩))
  all_goals
    (
     go_wp2_with fail
     go_ret
     have h5:=h3.kept (Only.of_below (S:=fun _=>False) g5) (fun q=>q) (fun _ _ q=>q);exact ⟨rfl,⟨hx.1.1,Or.inr ⟨r,Y,h5,fun j q=>(h4 j q).1⟩⟩,(((Only.of_below (S:=P) b1).drewN 1).tr (o3.mono (fun j q=>by rw [q];exact hx.1.1))).tr (Only.of_below g5)⟩)
theorem t_drop {P:Nat→Prop} (w:World) (c n:Nat) (A:K→Option Int) (k:K) (t:Int) (h:Tq P w c n A) (hA:A k=some t) (hn:n<1073741824) (n1:Nat) (hn1:n=n1+1) (hP:∀ j,w.heap.size≤j→P j) :
    Calls Tryz.prog 65 #[.pointer (some ⟨c,0,none⟩),kv k] w fun e w'=>e=.returned (.bool true)∧Tq P w' c n1 (updZ A k none)∧Only w w' P:=by
  have hk:=(h.okA hA).2.1;have HA:=Lib.hid (Mo_at hA);have HN1:=Lib.hid hn1;clear hA hn1
  go_enter Tryz.func65,Tryz.ntmps65
  go_upto_region 1 with (fail)
  have b1:Below w.heap.size w (w.alloc (.cells #[.int .i64 k.1,.int .i64 k.2] 77)):=(Below.refl _ _).alloc (Nat.le_refl _) _;have HBX:=Lib.hid (heap_alloc_new w (.cells #[.int .i64 k.1,.int .i64 k.2] 77));obtain ⟨H,hH⟩:∃ H,w.heap.size=H:=⟨_,rfl⟩;have hx:Tq (fun j=>P j∧j≠H) (w.alloc (.cells #[.int .i64 k.1,.int .i64 k.2] 77)) c n A:=(h.tight.below b1).mono (fun j q=>⟨q.1,by omega⟩)
  have hHc:H≠c:=by have:=h.lt;omega
  have hHw:w.heap.size≤H:=by omega
  rw [hH] at HBX;rw [hH];clear hH h;have hHlt:=lt_of_row HBX.out;generalize w.alloc (.cells #[.int .i64 k.1,.int .i64 k.2] 77)=w1 at b1 HBX hx hHlt ⊢;have hPx:∀ j,w1.heap.size≤j→(fun j=>P j∧j≠H) j:=fun j q=>⟨hP j (Nat.le_trans b1.size q),by omega⟩
  have hPd:∀ j,w1.drew.heap.size≤j→(fun j=>P j∧j≠H) j:=hPx;have hxd:Tq (fun j=>P j∧j≠H) w1.drew c n A:=hx.kept ((Only.refl w1 (fun _=>False)).drewN 1) (fun _ _ q=>q);have e0:=cell_of_row _ _ 0 _ _ _ HBX.out;have e1:=cell_of_row _ _ 1 _ _ _ HBX.out;have e0d:w1.drew.cell? ⟨H,0,none⟩=some (.int .i64 k.1):=e0;have e1d:w1.drew.cell? ⟨H,1,none⟩=some (.int .i64 k.2):=e1
  go_region_with (first
    | (go_at_call 38;refine (all_any _ c n A hxd hPd).mono ?_;rintro e w3 ⟨r,Y,rfl,h3,h4,o3⟩;have f0:=o3.cell (x:=⟨H,0,none⟩) hHc e0d;have f1:=o3.cell (x:=⟨H,1,none⟩) hHc e1d)
    | (go_at_call 109;refine (drop_some (less_s r) n (Mo A) Y k (t,k) _ h3.ob hk HA.out hn 0 (by decide) trivial (fun _ q=>q.elim) (fun _ q=>q.elim) n1 HN1.out).mono ?_;rintro e w4 ⟨rfl,Y',a,g1,g2,_,_,g5⟩))
  all_goals
    (
     go_wp2_with fail
     go_ret
     rw [Mo_del] at g1;obtain ⟨h5,h6⟩:=h3.turned h4 (fun j q=>hPd j (Nat.le_trans o3.size q)) g1 g2 g5;exact ⟨rfl,⟨hx.1.1,Or.inr ⟨r,Y',h5,fun j q=>(h6 j q).1⟩⟩,(((Only.of_below (S:=P) b1).drewN 1).tr (o3.mono (fun j q=>by rw [q];exact hx.1.1))).tr (g5.mono (fun j q=>q.elim (fun q=>(h4 j q).1) (fun q=>q.elim)))⟩)
def Fst (A:K→Option Int) (k:K) (t:Int):Prop:=A k=some t∧∀ k' t',A k'=some t'→lt (t',k') (t,k)=false
theorem lt_tot {a b:V} (h:lt a b=false) (h':lt b a=false):a=b:=by
 have h1:=of_decide_eq_false h;have h2:=of_decide_eq_false h';obtain ⟨a1,a2,a3⟩:=a;obtain ⟨b1,b2,b3⟩:=b;simp only [] at h1 h2;obtain ⟨rfl,rfl,rfl⟩:a1=b1∧a2=b2∧a3=b3:=by omega
 rfl
theorem Fst.uniq {A:K→Option Int} {k k':K} {t t':Int} (h:Fst A k t) (h':Fst A k' t'):k=k'∧t=t':=by
 have:=lt_tot (h'.2 k t h.1) (h.2 k' t' h'.1)
 injection this with a b
 exact ⟨b,a⟩
theorem Fst.le {A:K→Option Int} {k k':K} {t t':Int} (h:Fst A k t) (h':A k'=some t'):t≤t':=by
 have:=of_decide_eq_false (h.2 k' t' h')
 simp only [] at this;omega
theorem Ta.fst {w:World} {c r n:Nat} {A:K→Option Int} {Y:Nat→Prop} (h:Ta w c r n A Y) (hn:0<n):∃ k t,Fst A k t:=by
 obtain ⟨G,B,sv,T,M,hp,_⟩:=h.ob;have h1:=hp.full.mn odr hn;obtain ⟨a1,a2⟩:=Mo_inv h1.1;refine ⟨_,_,a1,fun k' t' q=>?_⟩;have:=h1.2 k' _ (Mo_at q)
 rw [←a2];exact this
theorem Tq.fst {P:Nat→Prop} {w:World} {c n:Nat} {A:K→Option Int} (h:Tq P w c n A) (hn:0<n):∃ k t,Fst A k t:=by
 rcases h.2 with ⟨_,h1,_⟩ | ⟨r,Y,h1,h2⟩
 ·omega
 ·exact h1.fst hn
theorem Fst.min {A:K→Option Int} {k:K} {v:V} (h:Mo A k=some v) (h':∀ k' v',Mo A k'=some v'→lt v' v=false):Fst A k v.1∧v.2=k:=by
 obtain ⟨a1,a2⟩:=Mo_inv h;refine ⟨⟨a1,fun k' t' q=>?_⟩,a2⟩;have:=h' k' _ (Mo_at q)
 rw [←a2];exact this
theorem t_next0 {P:Nat→Prop} (w:World) (c n:Nat) (A:K→Option Int) (now:Int) (h:Tq P w c n A) (hn:n<1073741824) (h0:∀ k t,A k=some t→now<t) (hP:∀ j,w.heap.size≤j→P j) :
  Calls Tryz.prog 136 #[.pointer (some ⟨c,0,none⟩),.int .i64 now] w fun e w'=>e=.returned (.tuple #[.agg #[.int .i64 0,.int .i64 0],.bool false])∧Tq P w' c n A∧Only w w' P:=by
 rcases Nat.eq_zero_or_pos n with rfl | hn0
 ·clear h0
  go_enter Tryz.func136,Tryz.ntmps136
  go_upto_region 1 with (fail)
  have b1:Below w.heap.size w (w.alloc (.cells #[.int .i64 0,.int .i64 0] 77)):=(Below.refl _ _).alloc (Nat.le_refl _) _;have HBR:=Lib.hid (heap_alloc_new w (.cells #[.int .i64 0,.int .i64 0] 77));obtain ⟨R,hR⟩:∃ R,w.heap.size=R:=⟨_,rfl⟩;have hx:Tq (fun j=>P j∧j≠R) (w.alloc (.cells #[.int .i64 0,.int .i64 0] 77)) c 0 A:=(h.tight.below b1).mono (fun j q=>⟨q.1,by omega⟩)
  have hRc:R≠c:=by have:=h.lt;omega
  have hRw:w.heap.size≤R:=by omega
  have hPc:=h.1;rw [hR] at HBR;rw [hR];clear hR h;have hRlt:=lt_of_row HBR.out;generalize w.alloc (.cells #[.int .i64 0,.int .i64 0] 77)=w1 at b1 HBR hx hRlt ⊢;have hPx:∀ j,w1.heap.size≤j→(fun j=>P j∧j≠R) j:=fun j q=>⟨hP j (Nat.le_trans b1.size q),by omega⟩
  go_wp2_with fail
  refine (all_any w1 c 0 A hx hPx).mono ?_;rintro e w3 ⟨r,Y,rfl,h3,h4,o3⟩;have HBR3:=Lib.hid (o3.blk hRc HBR.out);go_wp2_with fail
  refine (min_none r FS (Mo A) Y w3 h3.ob).mono ?_;rintro e w2 ⟨rfl,b2⟩;have h5:=h3.kept (Only.of_below (S:=fun _=>False) b2) (fun q=>q) (fun _ _ q=>q);have HBR2:=(Only.of_below (S:=fun _=>False) b2).blk (fun q=>q) HBR3.out;have o2:Only w w2 P:=((Only.of_below (S:=P) b1).tr (o3.mono (fun j q=>by rw [q];exact hPc))).tr (Only.of_below b2)
  go_upto_region 2 with (fail)
  have oa:Only w2 ((w2.alloc (.cells #[.int .i64 0,.int .i64 0] 77)).alloc (.cells #[.int .i64 0,.int .i64 0,.int .i64 0] 107)) (fun _=>False):=((Only.refl w2 _).alloc _).alloc _;have HK:Hid (((w2.alloc (.cells #[.int .i64 0,.int .i64 0] 77)).alloc (.cells #[.int .i64 0,.int .i64 0,.int .i64 0] 107)).heap[w2.heap.size]?=some (.cells #[.int .i64 0,.int .i64 0] 77)):=Lib.hid ((Only.alloc (Only.refl (w2.alloc (.cells #[.int .i64 0,.int .i64 0] 77)) (fun _=>False)) _).blk (fun q=>q) (heap_alloc_new w2 _));have HV:Hid (((w2.alloc (.cells #[.int .i64 0,.int .i64 0] 77)).alloc (.cells #[.int .i64 0,.int .i64 0,.int .i64 0] 107)).heap[w2.heap.size+1]?=some (.cells #[.int .i64 0,.int .i64 0,.int .i64 0] 107)):=Lib.hid (by have:=heap_alloc_new (w2.alloc (.cells #[.int .i64 0,.int .i64 0] 77)) (.cells #[.int .i64 0,.int .i64 0,.int .i64 0] 107);rwa [World.size_alloc] at this)
  have h6:=h5.kept oa (fun q=>q) (fun _ _ q=>q);have HBR4:=Lib.hid (oa.blk (fun q=>q) HBR2);have o4:Only w ((w2.alloc (.cells #[.int .i64 0,.int .i64 0] 77)).alloc (.cells #[.int .i64 0,.int .i64 0,.int .i64 0] 107)) P:=o2.trans oa (fun _ q=>q.elim);generalize ((w2.alloc (.cells #[.int .i64 0,.int .i64 0] 77)).alloc (.cells #[.int .i64 0,.int .i64 0,.int .i64 0] 107))=w4 at oa HK HV h6 HBR4 o4 ⊢;have v0:=cell_of_row _ _ 0 _ _ _ HV.out;go_wp2_with (with_reducible refine wpList_store_key rfl (.tmp 4) (.tmp 24) rfl R 0 0 rfl rfl 0 0 HBR4 ?_;intro w5 HB5 hg5)
  have o5:Only w4 w5 (fun j=>j=R):=Only.grown hg5 (Or.inl rfl);have z0:=cell_of_row _ _ 0 _ _ _ HB5.out;have z1:=cell_of_row _ _ 1 _ _ _ HB5.out;have h7:=h6.kept o5 (fun q=>hRc q.symm) (fun j q e=>(h4 j q).2 e);exact bodyPost_ret (v:=.tuple #[.agg #[.int .i64 0,.int .i64 0],.bool false]) (by simp [results,Tryz.results136,go_sem,z0,z1]) rfl ⟨rfl,⟨hPc,Or.inr ⟨r,Y,h7,fun j q=>(h4 j q).1⟩⟩,o4.trans o5 (fun j q=>by rw [q];exact Or.inr hRw)⟩
 ·have H0:=Lib.hid h0
  clear h0
  go_enter Tryz.func136,Tryz.ntmps136
  go_upto_region 1 with (fail)
  have b1:Below w.heap.size w (w.alloc (.cells #[.int .i64 0,.int .i64 0] 77)):=(Below.refl _ _).alloc (Nat.le_refl _) _;have HBR:=Lib.hid (heap_alloc_new w (.cells #[.int .i64 0,.int .i64 0] 77));obtain ⟨R,hR⟩:∃ R,w.heap.size=R:=⟨_,rfl⟩;have hx:Tq (fun j=>P j∧j≠R) (w.alloc (.cells #[.int .i64 0,.int .i64 0] 77)) c n A:=(h.tight.below b1).mono (fun j q=>⟨q.1,by omega⟩)
  have hRc:R≠c:=by have:=h.lt;omega
  have hRw:w.heap.size≤R:=by omega
  have hPc:=h.1;rw [hR] at HBR;rw [hR];clear hR h;have hRlt:=lt_of_row HBR.out;generalize w.alloc (.cells #[.int .i64 0,.int .i64 0] 77)=w1 at b1 HBR hx hRlt ⊢;have hPx:∀ j,w1.heap.size≤j→(fun j=>P j∧j≠R) j:=fun j q=>⟨hP j (Nat.le_trans b1.size q),by omega⟩
  go_wp2_with fail
  refine (all_any w1 c n A hx hPx).mono ?_;rintro e w3 ⟨r,Y,rfl,h3,h4,o3⟩;have HBR3:=Lib.hid (o3.blk hRc HBR.out);go_wp2_with fail
  refine (min_some r FS n (Mo A) Y w3 h3.ob hn0 hn).mono ?_;rintro e w2 ⟨k,v,rfl,hA,hmin,b2⟩;obtain ⟨hF,hv2⟩:=Fst.min hA hmin;have hlt:=H0.out k v.1 hF.1;have hdt:decide (now<v.1)=true:=by simp;exact hlt
  clear hA hmin hF hv2 hlt;have h5:=h3.kept (Only.of_below (S:=fun _=>False) b2) (fun q=>q) (fun _ _ q=>q);have HBR2:=(Only.of_below (S:=fun _=>False) b2).blk (fun q=>q) HBR3.out;have o2:Only w w2 P:=((Only.of_below (S:=P) b1).tr (o3.mono (fun j q=>by rw [q];exact hPc))).tr (Only.of_below b2)
  go_upto_region 2 with (fail)
  have oa:Only w2 ((w2.alloc (.cells #[.int .i64 k.1,.int .i64 k.2] 77)).alloc (.cells #[.int .i64 v.1,.int .i64 v.2.1,.int .i64 v.2.2] 107)) (fun _=>False):=((Only.refl w2 _).alloc _).alloc _;have HK:Hid (((w2.alloc (.cells #[.int .i64 k.1,.int .i64 k.2] 77)).alloc (.cells #[.int .i64 v.1,.int .i64 v.2.1,.int .i64 v.2.2] 107)).heap[w2.heap.size]?=some (.cells #[.int .i64 k.1,.int .i64 k.2] 77)):=Lib.hid ((Only.alloc (Only.refl (w2.alloc (.cells #[.int .i64 k.1,.int .i64 k.2] 77)) (fun _=>False)) _).blk (fun q=>q) (heap_alloc_new w2 _));have HV:Hid (((w2.alloc (.cells #[.int .i64 k.1,.int .i64 k.2] 77)).alloc (.cells #[.int .i64 v.1,.int .i64 v.2.1,.int .i64 v.2.2] 107)).heap[w2.heap.size+1]?=some (.cells #[.int .i64 v.1,.int .i64 v.2.1,.int .i64 v.2.2] 107)):=Lib.hid (by have:=heap_alloc_new (w2.alloc (.cells #[.int .i64 k.1,.int .i64 k.2] 77)) (.cells #[.int .i64 v.1,.int .i64 v.2.1,.int .i64 v.2.2] 107);rwa [World.size_alloc] at this)
  have h6:=h5.kept oa (fun q=>q) (fun _ _ q=>q);have HBR4:=Lib.hid (oa.blk (fun q=>q) HBR2);have o4:Only w ((w2.alloc (.cells #[.int .i64 k.1,.int .i64 k.2] 77)).alloc (.cells #[.int .i64 v.1,.int .i64 v.2.1,.int .i64 v.2.2] 107)) P:=o2.trans oa (fun _ q=>q.elim);generalize ((w2.alloc (.cells #[.int .i64 k.1,.int .i64 k.2] 77)).alloc (.cells #[.int .i64 v.1,.int .i64 v.2.1,.int .i64 v.2.2] 107))=w4 at oa HK HV h6 HBR4 o4 ⊢;have v0:=cell_of_row _ _ 0 _ _ _ HV.out;go_wp2_with (with_reducible refine wpList_store_key rfl (.tmp 4) (.tmp 24) rfl R 0 0 rfl rfl 0 0 HBR4 ?_;intro w5 HB5 hg5)
  have o5:Only w4 w5 (fun j=>j=R):=Only.grown hg5 (Or.inl rfl);have z0:=cell_of_row _ _ 0 _ _ _ HB5.out;have z1:=cell_of_row _ _ 1 _ _ _ HB5.out;have h7:=h6.kept o5 (fun q=>hRc q.symm) (fun j q e=>(h4 j q).2 e);exact bodyPost_ret (v:=.tuple #[.agg #[.int .i64 0,.int .i64 0],.bool false]) (by simp [results,Tryz.results136,go_sem,z0,z1]) rfl ⟨rfl,⟨hPc,Or.inr ⟨r,Y,h7,fun j q=>(h4 j q).1⟩⟩,o4.trans o5 (fun j q=>by rw [q];exact Or.inr hRw)⟩
theorem t_next1 {P:Nat→Prop} (w:World) (c n:Nat) (A:K→Option Int) (now:Int) (h:Tq P w c n A) (hn:n<1073741824) (k:K) (t:Int) (hF0:Fst A k t) (ht:t≤now) (n1:Nat) (hn1:n=n1+1) (hP:∀ j,w.heap.size≤j→P j) :
    Calls Tryz.prog 136 #[.pointer (some ⟨c,0,none⟩),.int .i64 now] w fun e w'=>e=.returned (.tuple #[kv k,.bool true])∧Tq P w' c n1 (updZ A k none)∧Only w w' P:=by
  have hn0:0<n:=by omega
  have hk:=(h.okA hF0.1).2.1;have HN1:=Lib.hid hn1;have HF0:=Lib.hid hF0;have HT:=Lib.hid ht;clear hn1 hF0 ht
  go_enter Tryz.func136,Tryz.ntmps136
  go_upto_region 1 with (fail)
  have b1:Below w.heap.size w (w.alloc (.cells #[.int .i64 0,.int .i64 0] 77)):=(Below.refl _ _).alloc (Nat.le_refl _) _;have HBR:=Lib.hid (heap_alloc_new w (.cells #[.int .i64 0,.int .i64 0] 77));obtain ⟨R,hR⟩:∃ R,w.heap.size=R:=⟨_,rfl⟩;have hx:Tq (fun j=>P j∧j≠R) (w.alloc (.cells #[.int .i64 0,.int .i64 0] 77)) c n A:=(h.tight.below b1).mono (fun j q=>⟨q.1,by omega⟩)
  have hRc:R≠c:=by have:=h.lt;omega
  have hRw:w.heap.size≤R:=by omega
  have hPc:=h.1;rw [hR] at HBR;rw [hR];clear hR h;have hRlt:=lt_of_row HBR.out;generalize w.alloc (.cells #[.int .i64 0,.int .i64 0] 77)=w1 at b1 HBR hx hRlt ⊢;have hPx:∀ j,w1.heap.size≤j→(fun j=>P j∧j≠R) j:=fun j q=>⟨hP j (Nat.le_trans b1.size q),by omega⟩
  go_wp2_with fail
  refine (all_any w1 c n A hx hPx).mono ?_;rintro e w3 ⟨r,Y,rfl,h3,h4,o3⟩;have HBR3:=Lib.hid (o3.blk hRc HBR.out);go_wp2_with fail
  refine (min_some r FS n (Mo A) Y w3 h3.ob hn0 hn).mono ?_;rintro e w2 ⟨k₂,v,rfl,hA,hmin,b2⟩;obtain ⟨hF,hv2⟩:=Fst.min hA hmin;obtain ⟨ek,et⟩:=HF0.out.uniq hF;subst ek;have hdt:decide (now<v.1)=false:=by simp;rw [←et];exact HT.out
  have HA:=Lib.hid hA;clear hA hmin hF hv2 et;have h5:=h3.kept (Only.of_below (S:=fun _=>False) b2) (fun q=>q) (fun _ _ q=>q);have HBR2:=(Only.of_below (S:=fun _=>False) b2).blk (fun q=>q) HBR3.out;have o2:Only w w2 P:=((Only.of_below (S:=P) b1).tr (o3.mono (fun j q=>by rw [q];exact hPc))).tr (Only.of_below b2)
  go_upto_region 2 with (fail)
  have oa:Only w2 ((w2.alloc (.cells #[.int .i64 k.1,.int .i64 k.2] 77)).alloc (.cells #[.int .i64 v.1,.int .i64 v.2.1,.int .i64 v.2.2] 107)) (fun _=>False):=((Only.refl w2 _).alloc _).alloc _;have HK:Hid (((w2.alloc (.cells #[.int .i64 k.1,.int .i64 k.2] 77)).alloc (.cells #[.int .i64 v.1,.int .i64 v.2.1,.int .i64 v.2.2] 107)).heap[w2.heap.size]?=some (.cells #[.int .i64 k.1,.int .i64 k.2] 77)):=Lib.hid ((Only.alloc (Only.refl (w2.alloc (.cells #[.int .i64 k.1,.int .i64 k.2] 77)) (fun _=>False)) _).blk (fun q=>q) (heap_alloc_new w2 _));have HV:Hid (((w2.alloc (.cells #[.int .i64 k.1,.int .i64 k.2] 77)).alloc (.cells #[.int .i64 v.1,.int .i64 v.2.1,.int .i64 v.2.2] 107)).heap[w2.heap.size+1]?=some (.cells #[.int .i64 v.1,.int .i64 v.2.1,.int .i64 v.2.2] 107)):=Lib.hid (by have:=heap_alloc_new (w2.alloc (.cells #[.int .i64 k.1,.int .i64 k.2] 77)) (.cells #[.int .i64 v.1,.int .i64 v.2.1,.int .i64 v.2.2] 107);rwa [World.size_alloc] at this)
  have h6:=h5.kept oa (fun q=>q) (fun _ _ q=>q);have HBR4:=Lib.hid (oa.blk (fun q=>q) HBR2);have o4:Only w ((w2.alloc (.cells #[.int .i64 k.1,.int .i64 k.2] 77)).alloc (.cells #[.int .i64 v.1,.int .i64 v.2.1,.int .i64 v.2.2] 107)) P:=o2.trans oa (fun _ q=>q.elim);generalize ((w2.alloc (.cells #[.int .i64 k.1,.int .i64 k.2] 77)).alloc (.cells #[.int .i64 v.1,.int .i64 v.2.1,.int .i64 v.2.2] 107))=w4 at oa HK HV h6 HBR4 o4 ⊢;have v0:=cell_of_row _ _ 0 _ _ _ HV.out;have hKR:w2.heap.size≠R:=by have:=lt_of_row HBR2;omega
  have hKc:w2.heap.size≠c:=by have:=lt_of_row h5.blk;omega
  have hx4:Tq (fun j=>P j∧j≠R∧j≠w2.heap.size) w4 c n A:=⟨⟨hPc,hRc.symm,hKc.symm⟩,Or.inr ⟨r,Y,h6,fun j q=>⟨(h4 j q).1,(h4 j q).2,by have:=h5.ob.lt j q;omega⟩⟩⟩
  have hw4:w2.heap.size<w4.heap.size:=lt_of_row HK.out;have hRl:=lt_of_row HBR4.out;have hPd:∀ j,w4.drew.heap.size≤j→(fun j=>P j∧j≠R∧j≠w2.heap.size) j:=fun j q=>by have q':w4.heap.size≤j:=q;exact ⟨hP j (Nat.le_trans o4.size q'),by omega,by omega⟩
  have hxd:Tq (fun j=>P j∧j≠R∧j≠w2.heap.size) w4.drew c n A:=hx4.kept ((Only.refl w4 (fun _=>False)).drewN 1) (fun _ _ q=>q);clear h3 h4 h5 h6 hx hPx o3 b2 oa o2;have e0:=cell_of_row _ _ 0 _ _ _ HK.out;have e1:=cell_of_row _ _ 1 _ _ _ HK.out;have e0d:w4.drew.cell? ⟨w2.heap.size,0,none⟩=some (.int .i64 k.1):=e0;have e1d:w4.drew.cell? ⟨w2.heap.size,1,none⟩=some (.int .i64 k.2):=e1;go_upto_region 4 with (fail)
  go_region_with (first
    | (go_at_call 38;refine (all_any _ c n A hxd hPd).mono ?_;rintro e w5 ⟨r5,Y5,rfl,h7,h8,o5⟩;have f0:=o5.cell (x:=⟨w2.heap.size,0,none⟩) hKc e0d;have f1:=o5.cell (x:=⟨w2.heap.size,1,none⟩) hKc e1d)
    | (go_at_call 109;refine (drop_some (less_s r5) n (Mo A) Y5 k v _ h7.ob hk HA.out hn 0 (by decide) trivial (fun _ q=>q.elim) (fun _ q=>q.elim) n1 HN1.out).mono ?_;rintro e w6 ⟨rfl,Y',a,g1,g2,_,_,g5⟩))
  all_goals
    (
     rw [Mo_del] at g1;obtain ⟨h9,h10⟩:=h7.turned h8 (fun j q=>hPd j (Nat.le_trans o5.size q)) g1 g2 g5;have od:Only w w4.drew P:=o4.drewN 1;have o6:Only w w6 P:=(od.tr (o5.mono (fun j q=>by rw [q];exact hPc))).tr (g5.mono (fun j q=>q.elim (fun q=>(h8 j q).1) (fun q=>q.elim)))
     have HK6:=Lib.hid (g5.blk (fun q=>q.elim (fun q=>(h8 _ q).2.2 rfl) id) (o5.blk hKc (((Only.refl w4 (fun _=>False)).drewN 1).blk (fun q=>q) HK.out)));have HR6:=Lib.hid (g5.blk (fun q=>q.elim (fun q=>(h8 _ q).2.1 rfl) id) (o5.blk hRc (((Only.refl w4 (fun _=>False)).drewN 1).blk (fun q=>q) HBR4.out)));have y0:=cell_of_row _ _ 0 _ _ _ HK6.out;have y1:=cell_of_row _ _ 1 _ _ _ HK6.out;go_wp2_with (with_reducible refine wpList_store_key rfl (.tmp 4) (.tmp 29) rfl R k.1 k.2 rfl rfl 0 0 HR6 ?_;intro w7 HB7 hg7)
     have o7:Only w6 w7 (fun j=>j=R):=Only.grown hg7 (Or.inl rfl);have z0:=cell_of_row _ _ 0 _ _ _ HB7.out;have z1:=cell_of_row _ _ 1 _ _ _ HB7.out;have h11:=h9.kept o7 (fun q=>hRc q.symm) (fun j q e=>(h10 j q).2.1 e);exact bodyPost_ret (v:=.tuple #[kv k,.bool true]) (by simp [results,Tryz.results136,go_sem,z0,z1]) rfl ⟨rfl,⟨hPc,Or.inr ⟨r5,Y',h11,fun j q=>(h10 j q).1⟩⟩,o6.trans o7 (fun j q=>by rw [q];exact Or.inr hRw)⟩)
def Tx (w:World) (c n:Nat) (A:K→Option Int) (X:Nat→Prop):Prop:=Tq X w c n A∧∀ j,X j→j<w.heap.size
theorem Tx.big {w:World} {c n:Nat} {A:K→Option Int} {X:Nat→Prop} (h:Tx w c n A X):Tq (fun j=>X j∨w.heap.size≤j) w c n A:=h.1.mono (fun _ q=>Or.inl q)
theorem Only.old {w w':World} {X:Nat→Prop} (h:Only w w' (fun j=>X j∨w.heap.size≤j)):Only w w' X :=
 ⟨h.os,h.tape,h.output,h.size,fun k hk hn=>h.block k hk (fun q=>q.elim hn (fun q=>by omega))⟩
theorem Tx.next {w w':World} {c n n':Nat} {A A':K→Option Int} {X:Nat→Prop} (_h:Tx w c n A X) (h1:Tq (fun j=>X j∨w.heap.size≤j) w' c n' A') (h2:Only w w' (fun j=>X j∨w.heap.size≤j)) :
  ∃ X',Tx w' c n' A' X'∧(∀ j,X' j→X j∨w.heap.size≤j)∧Only w w' X :=
 ⟨_,⟨h1.tight,fun _ q=>q.2⟩,fun _ q=>q.1,Only.old h2⟩
theorem Tx.kept {w w':World} {c n:Nat} {A:K→Option Int} {X S:Nat→Prop} (h:Tx w c n A X) (ho:Only w w' S) (hd:∀ j,X j→¬ S j):Tx w' c n A X:=⟨h.1.kept ho hd,fun j q=>Nat.lt_of_lt_of_le (h.2 j q) ho.size⟩
theorem Tx.box {w:World} {c n:Nat} {A:K→Option Int} {X:Nat→Prop} (h:Tx w c n A X) (o:Obj):Tx (w.alloc o) c n A X:=h.kept ((Only.refl w (fun _=>False)).alloc o) (fun _ _ q=>q)
theorem Tx.drewN {w:World} {c n:Nat} {A:K→Option Int} {X:Nat→Prop} (h:Tx w c n A X) (m:Nat):Tx (w.drewN m) c n A X:=h.kept ((Only.refl w (fun _=>False)).drewN m) (fun _ _ q=>q)
theorem Tx.below {w w':World} {c n:Nat} {A:K→Option Int} {X:Nat→Prop} (h:Tx w c n A X) (hb:Below w.heap.size w w'):Tx w' c n A X:=h.kept (Only.of_below (S:=fun _=>False) hb) (fun _ _ q=>q)
theorem Tx.new {w:World} {c n:Nat} {A:K→Option Int} {X:Nat→Prop} (h:Tx w c n A X) {j:Nat} (hj:w.heap.size≤j):¬ X j:=fun q=>by have:=h.2 j q;omega
theorem big_new (X:Nat→Prop) (w:World):∀ j,w.heap.size≤j→(fun j=>X j∨w.heap.size≤j) j:=fun _ q=>Or.inr q
theorem x_set (w:World) (c n:Nat) (A:K→Option Int) (X:Nat→Prop) (k:K) (t:Int) (hk:kw k) (ht:(Lit.int .i64 t).wf=true) (hn:n<1073741823) (n':Nat) (hn':n'=if (A k).isSome then n else n+1) (h:Tx w c n A X) :
  Calls Tryz.prog 153 #[.pointer (some ⟨c,0,none⟩),kv k,.int .i64 t] w fun e w'=>e=.returned (.tuple #[])∧∃ X',Tx w' c n' (updZ A k (some t)) X'∧(∀ j,X' j→X j∨w.heap.size≤j)∧Only w w' X:=by
 refine (t_set w c n A k t h.big hk ht hn n' hn' (big_new X w)).mono ?_;rintro e w' ⟨rfl,h1,h2⟩;exact ⟨rfl,h.next h1 h2⟩
theorem x_drop0 (w:World) (c n:Nat) (A:K→Option Int) (X:Nat→Prop) (k:K) (hk:kw k) (hA:A k=none) (h:Tx w c n A X) :
  Calls Tryz.prog 65 #[.pointer (some ⟨c,0,none⟩),kv k] w fun e w'=>e=.returned (.bool false)∧∃ X',Tx w' c n A X'∧(∀ j,X' j→X j∨w.heap.size≤j)∧Only w w' X:=by
 refine (t_drop0 w c n A k h.big hk hA (big_new X w)).mono ?_;rintro e w' ⟨rfl,h1,h2⟩;exact ⟨rfl,h.next h1 h2⟩
theorem x_drop (w:World) (c n:Nat) (A:K→Option Int) (X:Nat→Prop) (k:K) (t:Int) (hA:A k=some t) (hn:n<1073741824) (n1:Nat) (hn1:n=n1+1) (h:Tx w c n A X) :
  Calls Tryz.prog 65 #[.pointer (some ⟨c,0,none⟩),kv k] w fun e w'=>e=.returned (.bool true)∧∃ X',Tx w' c n1 (updZ A k none) X'∧(∀ j,X' j→X j∨w.heap.size≤j)∧Only w w' X:=by
 refine (t_drop w c n A k t h.big hA hn n1 hn1 (big_new X w)).mono ?_;rintro e w' ⟨rfl,h1,h2⟩;exact ⟨rfl,h.next h1 h2⟩
theorem x_next0 (w:World) (c n:Nat) (A:K→Option Int) (X:Nat→Prop) (now:Int) (hn:n<1073741824) (h0:∀ k t,A k=some t→now<t) (h:Tx w c n A X) :
  Calls Tryz.prog 136 #[.pointer (some ⟨c,0,none⟩),.int .i64 now] w fun e w'=>e=.returned (.tuple #[.agg #[.int .i64 0,.int .i64 0],.bool false])∧∃ X',Tx w' c n A X'∧(∀ j,X' j→X j∨w.heap.size≤j)∧Only w w' X:=by
 refine (t_next0 w c n A now h.big hn h0 (big_new X w)).mono ?_;rintro e w' ⟨rfl,h1,h2⟩;exact ⟨rfl,h.next h1 h2⟩
theorem x_next1 (w:World) (c n:Nat) (A:K→Option Int) (X:Nat→Prop) (now:Int) (hn:n<1073741824) (k:K) (t:Int) (hF:Fst A k t) (ht:t≤now) (n1:Nat) (hn1:n=n1+1) (h:Tx w c n A X) :
  Calls Tryz.prog 136 #[.pointer (some ⟨c,0,none⟩),.int .i64 now] w fun e w'=>e=.returned (.tuple #[kv k,.bool true])∧∃ X',Tx w' c n1 (updZ A k none) X'∧(∀ j,X' j→X j∨w.heap.size≤j)∧Only w w' X:=by
 refine (t_next1 w c n A now h.big hn k t hF ht n1 hn1 (big_new X w)).mono ?_;rintro e w' ⟨rfl,h1,h2⟩;exact ⟨rfl,h.next h1 h2⟩
theorem x_new (w:World):Calls Tryz.prog 27 #[] w fun e w'=>e=.returned (.pointer (some ⟨w.heap.size,0,none⟩))∧Tx w' w.heap.size 0 (fun _=>none) (fun j=>j=w.heap.size)∧Below w.heap.size w w':=by
 refine (t_new w).mono ?_;rintro e w' ⟨rfl,h1,h2⟩;exact ⟨rfl,⟨h1,fun j q=>by rw [q];exact h1.lt⟩,h2⟩
theorem Tx.lt {w:World} {c n:Nat} {A:K→Option Int} {X:Nat→Prop} (h:Tx w c n A X):c<w.heap.size:=h.1.lt
theorem Tx.pos {w:World} {c n:Nat} {A:K→Option Int} {X:Nat→Prop} (h:Tx w c n A X) {k:K} {t:Int} (hk:A k=some t):∃ n1,n=n1+1:=⟨n-1,by have:=(h.1.okA hk).2.2;omega⟩
def Nx (A:K→Option Int) (now:Int) (k:K) (b:Bool) (C:K→Option Int):Prop :=
 (b=true∧(∃ t,Fst A k t∧t≤now)∧C=updZ A k none)∨(b=false∧k=(0,0)∧C=A∧∀ k t,A k=some t→now<t)
theorem x_next (w:World) (c n:Nat) (A:K→Option Int) (X:Nat→Prop) (now:Int) (hn:n<1073741824) (h:Tx w c n A X) :
  Calls Tryz.prog 136 #[.pointer (some ⟨c,0,none⟩),.int .i64 now] w fun e w'=>∃ (k:K) (b:Bool) (C:K→Option Int) (n':Nat),e=.returned (.tuple #[kv k,.bool b])∧Nx A now k b C∧n=n'+b.toNat∧∃ X',Tx w' c n' C X'∧(∀ j,X' j→X j∨w.heap.size≤j)∧Only w w' X:=by
 by_cases hq:∃ k t,Fst A k t∧t≤now
 ·obtain ⟨k,t,hF,ht⟩:=hq
  obtain ⟨n1,hn1⟩:=h.pos hF.1;refine (x_next1 w c n A X now hn k t hF ht n1 hn1 h).mono ?_;rintro e w' ⟨rfl,h1⟩;exact ⟨k,true,_,n1,rfl,Or.inl ⟨rfl,⟨t,hF,ht⟩,rfl⟩,hn1,h1⟩
 ·have h0:∀ k t,A k=some t→now<t:=by
   intro k t hk;obtain ⟨k0,t0,hF⟩:=h.1.fst (h.1.okA hk).2.2;have h1:=hF.le hk;have h2:¬ t0≤now:=fun q=>hq ⟨k0,t0,hF,q⟩;omega
  refine (x_next0 w c n A X now hn h0 h).mono ?_;rintro e w' ⟨rfl,h1⟩;exact ⟨(0,0),false,A,n,rfl,Or.inr ⟨rfl,rfl,rfl,h0⟩,rfl,h1⟩
def Tk (A:K→Option Int) (now:Int) (m:Nat) (F:Nat→K) (B:K→Option Int):Prop :=
 ∃ Z:Nat→K→Option Int,Z 0=A∧Z m=B∧∀ i,i<m→(∃ t,Fst (Z i) (F i) t∧t≤now)∧Z (i+1)=updZ (Z i) (F i) none
theorem Tk.nil (A:K→Option Int) (now:Int) (F:Nat→K):Tk A now 0 F A:=⟨fun _=>A,rfl,rfl,fun i hi=>absurd hi (by omega)⟩
abbrev kc (x:K):List Value:=[.int .i64 x.1,.int .i64 x.2]
end Go.Proofs.YthdengocipfgiaaGreat.W.HT
