import Derived.Test.YthdengocipfgiaaGreatCaH
import Derived.Test.YthdengocipfgiaaGreatCaI
import Derived.BigRegion
import Derived.Deep.RegionHeld3
/- A part of what core's laws stand on. -/
set_option linter.unusedVariables false
set_option linter.unusedSimpArgs false
set_option maxRecDepth 100000
set_option maxHeartbeats 1600000
namespace Go.Proofs.YthdengocipfgiaaGreat.W.HR
open Go.RowKit
open Go.Proofs.YthdengocipfgiaaGreat.R (compare_any cmpI cmp_lt cmp_gt cmp_eq U64 Rat)
theorem lt_yes {p q p' q':Nat} {d d':Int} (h:(p:Int)*(q':Int)<(p':Int)*(q:Int)):lt (p,q,d) (p',q',d')=true:=by
 have h1:p*q'<p'*q:=by rw [←Int.natCast_mul,←Int.natCast_mul] at h;exact Int.ofNat_lt.1 h
 exact decide_eq_true (Or.inl h1)
theorem lt_no {p q p' q':Nat} {d d':Int} (h:(p':Int)*(q:Int)<(p:Int)*(q':Int)):lt (p,q,d) (p',q',d')=false:=by
 have h1:p'*q<p*q':=by rw [←Int.natCast_mul,←Int.natCast_mul] at h;exact Int.ofNat_lt.1 h
 refine decide_eq_false ?_;show ¬ (p*q'<p'*q∨(p*q'=p'*q∧d<d'));omega
theorem lt_eq {p q p' q':Nat} {d d':Int} (h:(p:Int)*(q':Int)=(p':Int)*(q:Int)):lt (p,q,d) (p',q',d')=decide (d<d'):=by
 have h1:p*q'=p'*q:=by rw [←Int.natCast_mul,←Int.natCast_mul] at h;exact Int.ofNat_inj.1 h
 show decide (p*q'<p'*q∨(p*q'=p'*q∧d<d'))=decide (d<d')
 by_cases e:d<d'
 ·rw [decide_eq_true e];exact decide_eq_true (Or.inr ⟨h1,e⟩)
 ·rw [decide_eq_false e];refine decide_eq_false ?_;omega
theorem u64n {n:Nat} (h:n<18446744073709551616):U64 (n:Int):=⟨by omega,by omega⟩
theorem lower_any (p q p' q':Nat) (d d':Int) (h:ok (p,q,d)) (h':ok (p',q',d')) (w:World) :
  Calls Tryz.prog 180 #[.agg #[.int .u64 (p:Int),.int .u64 (q:Int),.int .i64 d],.agg #[.int .u64 (p':Int),.int .u64 (q':Int),.int .i64 d']] w fun e w'=>e=.returned (.bool (lt (p,q,d) (p',q',d')))∧Below w.heap.size w w':=by
 obtain ⟨h1,_,h2,_⟩:=h;obtain ⟨h1',_,h2',_⟩:=h';have hcmp:=fun w=>compare_any (p:Int) (q:Int) (p':Int) (q':Int) (u64n h1) (u64n h2) (u64n h1') (u64n h2') w
 rcases Int.lt_trichotomy ((p:Int)*(q':Int)) ((p':Int)*(q:Int)) with c | c | c
 ·rw [lt_yes c]
  rw [cmp_lt c] at hcmp;clear c
  go_enter Tryz.func180,Tryz.ntmps180
  go_wp2_with fail
  refine (hcmp _).mono ?_;rintro e w' ⟨rfl,y1,y2,rfl⟩;go_wp2_with fail
  go_ret
  exact ⟨rfl,((((Below.refl _ _).alloc (Nat.le_refl _) _).alloc (by simp <;> omega) _).alloc (by simp <;> omega) _).alloc (by simp <;> omega) _⟩
 ·rw [lt_eq c]
  rw [c,cmp_eq] at hcmp;clear c
  go_enter Tryz.func180,Tryz.ntmps180
  go_wp2_with fail
  refine (hcmp _).mono ?_;rintro e w' ⟨rfl,y1,y2,rfl⟩;go_wp2_with fail
  go_ret
  exact ⟨rfl,((((Below.refl _ _).alloc (Nat.le_refl _) _).alloc (by simp <;> omega) _).alloc (by simp <;> omega) _).alloc (by simp <;> omega) _⟩
 ·rw [lt_no c]
  rw [cmp_gt c] at hcmp;clear c
  go_enter Tryz.func180,Tryz.ntmps180
  go_wp2_with fail
  refine (hcmp _).mono ?_;rintro e w' ⟨rfl,y1,y2,rfl⟩;go_wp2_with fail
  go_ret
  exact ⟨rfl,((((Below.refl _ _).alloc (Nat.le_refl _) _).alloc (by simp <;> omega) _).alloc (by simp <;> omega) _).alloc (by simp <;> omega) _⟩
theorem less45 (r:Nat):Less r (.func (.func 180) #[] #[]) (fun _=>False) (fun _ _=>True):=by
 refine ⟨fun w m x y hc _ _ hx hy=>?_,fun _ _ _ _ _ _ _=>trivial⟩;obtain ⟨p,q,d⟩:=x;obtain ⟨p',q',d'⟩:=y;have hfn:=fun w=>run_neq_func_nil (P:=Tryz.prog) Tryz.underlying254 w (.func 180) #[] #[];have hcall:=fun w=>lower_any p q p' q' d d' hx hy w;obtain ⟨bb,hbb⟩:∃ bb,lt (p,q,d) (p',q',d')=bb:=⟨_,rfl⟩;rw [hbb] at hcall ⊢;clear hbb
 go_enter Tryz.func201,Tryz.ntmps201
 go_upto_region 1 with (fail)
 have hb0:Below w.heap.size w ((w.alloc (.cells #[.int .u64 (p:Int),.int .u64 (q:Int),.int .i64 d] 242)).alloc (.cells #[.int .u64 (p':Int),.int .u64 (q':Int),.int .i64 d'] 242)):=((Below.refl w.heap.size w).alloc (Nat.le_refl _) _).alloc (by simp <;> omega) _
 have hc0:=(Only.of_below (S:=fun _=>False) hb0).cell (x:=⟨r,0,none⟩) (fun q=>q) hc;have ho1:((w.alloc (.cells #[.int .u64 (p:Int),.int .u64 (q:Int),.int .i64 d] 242)).alloc (.cells #[.int .u64 (p':Int),.int .u64 (q':Int),.int .i64 d'] 242)).heap[w.heap.size]?=some (.cells #[.int .u64 (p:Int),.int .u64 (q:Int),.int .i64 d] 242):=(Only.alloc (Only.refl _ (fun _=>False)) _).blk (fun q=>q) (heap_alloc_new w _)
 have ho2:((w.alloc (.cells #[.int .u64 (p:Int),.int .u64 (q:Int),.int .i64 d] 242)).alloc (.cells #[.int .u64 (p':Int),.int .u64 (q':Int),.int .i64 d'] 242)).heap[w.heap.size+1]?=some (.cells #[.int .u64 (p':Int),.int .u64 (q':Int),.int .i64 d'] 242):=by
  have:=heap_alloc_new (w.alloc (.cells #[.int .u64 (p:Int),.int .u64 (q:Int),.int .i64 d] 242)) (.cells #[.int .u64 (p':Int),.int .u64 (q':Int),.int .i64 d'] 242)
  rwa [World.size_alloc] at this
 generalize ((w.alloc (.cells #[.int .u64 (p:Int),.int .u64 (q:Int),.int .i64 d] 242)).alloc (.cells #[.int .u64 (p':Int),.int .u64 (q':Int),.int .i64 d'] 242))=w1 at hb0 hc0 ho1 ho2 ⊢;have y0:=cell_of_row _ _ 0 _ _ _ ho1;have y1:=cell_of_row _ _ 1 _ _ _ ho1;have y2:=cell_of_row _ _ 2 _ _ _ ho1;have z0:=cell_of_row _ _ 0 _ _ _ ho2;have z1:=cell_of_row _ _ 1 _ _ _ ho2;have z2:=cell_of_row _ _ 2 _ _ _ ho2;clear hc
 go_still_tail 12,(by kernel_rfl)
 change wpList _ _ _ _ _ w1.drew;have hb1:Below w.heap.size w w1.drew:=below_drewN hb0 1;clear y0 y1 y2 z0 z1 z2 hc0 hb0;generalize w1.drew=w2 at hb1 ⊢;go_wp2_with fail
 refine (hcall _).mono ?_;rintro e w' ⟨rfl,hb⟩;go_wp2_with fail
 go_ret
 exact ⟨rfl,trivial,Only.of_below (hb1.trans (hb.mono hb1.size))⟩
abbrev F45:Value:=.func (.func 180) #[] #[]
theorem min_none (r:Nat) (Fv:Value) (A:Int→Option V) (X:Nat→Prop) (w:World) (h:Ob w r Fv 0 A X) :
  Calls Tryz.prog 182 #[.pointer (some ⟨r,0,none⟩)] w fun e w'=>e=.returned (.tuple #[.int .i64 0,.agg #[.int .u64 0,.int .u64 0,.int .i64 0],.bool false])∧Below w.heap.size w w':=by
 obtain ⟨G,B,sv,T,M,h,h1,h2,h3,h4⟩:=h;have c1:=cell_of_row _ _ 1 _ _ _ h.blk;have hrlt:=lt_of_row h.blk;obtain ⟨A1,cap,rfl,hc1,hc2⟩:=h.its.slice
 go_enter Tryz.func182,Tryz.ntmps182
 go_wp2
 go_region
 go_wp2
 exact bodyPost_ret (v:=.tuple #[.int .i64 0,.agg #[.int .u64 0,.int .u64 0,.int .i64 0],.bool false]) (by simp [results,Tryz.results182,go_sem]) rfl ⟨rfl,below_drewN (((Below.refl w.heap.size w).alloc (Nat.le_refl _) _).alloc (by simp <;> omega) _) 1⟩
theorem min_some (r:Nat) (Fv:Value) (n:Nat) (A:Int→Option V) (X:Nat→Prop) (w:World) (h:Ob w r Fv n A X) (hn:0<n) (hn2:n<1073741824) :
  Calls Tryz.prog 182 #[.pointer (some ⟨r,0,none⟩)] w fun e w'=>∃ (k:Int) (p q:Nat) (d:Int),e=.returned (.tuple #[.int .i64 k,.agg #[.int .u64 (p:Int),.int .u64 (q:Int),.int .i64 d],.bool true])∧A k=some (p,q,d)∧(∀ k' v',A k'=some v'→lt v' (p,q,d)=false)∧Below w.heap.size w w':=by
 obtain ⟨G,B,sv,T,M,h,h1,h2,h3,h4⟩:=h;have c1:=cell_of_row _ _ 1 _ _ _ h.blk;have hrlt:=lt_of_row h.blk;obtain ⟨g,cap,hG,rfl,hrow⟩:=h.its.some_ hn;have hglt:=hrow.lt;obtain ⟨⟨k,p,q,d⟩,hT⟩:∃ x,T 0=x:=⟨_,rfl⟩;have hmin:=h.full.mn odr hn;rw [hT] at hmin;have x0:w.cell? ⟨g,0,none⟩=some (.int .i64 k):=hrow.cell (c:=0) hn (by rw [hT];rfl) rfl
 have x1:w.cell? ⟨g,1,none⟩=some (.int .u64 (p:Int)):=hrow.cell (c:=1) hn (by rw [hT];rfl) rfl
 have x2:w.cell? ⟨g,2,none⟩=some (.int .u64 (q:Int)):=hrow.cell (c:=2) hn (by rw [hT];rfl) rfl
 have x3:w.cell? ⟨g,3,none⟩=some (.int .i64 d):=hrow.cell (c:=3) hn (by rw [hT];rfl) rfl
 have hn0:(0:Int)<(n:Int):=by omega
 have hnz:((n:Int) == 0)=false:=by simp;omega
 have HMN:=Lib.hid hmin;clear hmin hT
 go_enter Tryz.func182,Tryz.ntmps182
 go_wp2
 go_region
 go_wp2
 exact bodyPost_ret (v:=.tuple #[.int .i64 k,.agg #[.int .u64 (p:Int),.int .u64 (q:Int),.int .i64 d],.bool true]) (by simp [results,Tryz.results182,go_sem]) rfl ⟨k,p,q,d,rfl,HMN.out.1,HMN.out.2,below_drewN ((Below.refl w.heap.size w).alloc (Nat.le_refl _) _) 1⟩
end Go.Proofs.YthdengocipfgiaaGreat.W.HR
namespace Go.Proofs.YthdengocipfgiaaGreat.W.HR
open Go.RowKit
open Go.Proofs.YthdengocipfgiaaGreat.R (above_yes above_no floor_any Fits U64 Rat)
theorem sizePt:(Tryz.prog.info? 226).map (·.size)=some 1:=by kernel_rfl
structure Ca (w:World) (c r cl n:Nat) (A:Int→Option V) (Y:Nat→Prop):Prop where
 blk:w.heap[c]?=some (.cells #[.pointer (some ⟨r,0,none⟩),.int .u64 (cl:Int)] 228 (0,0))
 ob:Ob w r F45 n A Y
 ne:¬ Y c
 ids:∀ k v,A k=some v→v.2.2=k
def Cq (P:Nat→Prop) (w:World) (c cl n:Nat) (A:Int→Option V):Prop :=
 P c∧((w.heap[c]?=some (.cells #[.pointer none,.int .u64 (cl:Int)] 228 (0,0))∧n=0∧A=fun _=>none)∨∃ r Y,Ca w c r cl n A Y∧∀ j,Y j→P j)
theorem Ca.kept {w w':World} {c r cl n:Nat} {A:Int→Option V} {Y S:Nat→Prop} (h:Ca w c r cl n A Y) (ho:Only w w' S) (hc:¬ S c) (hd:∀ j,Y j→¬ S j):Ca w' c r cl n A Y:=⟨ho.blk hc h.blk,h.ob.kept ho hd,h.ne,h.ids⟩
theorem Cq.lt {P:Nat→Prop} {w:World} {c cl n:Nat} {A:Int→Option V} (h:Cq P w c cl n A):c<w.heap.size:=by
 rcases h.2 with h | ⟨r,Y,h,_⟩
 ·exact lt_of_row h.1
 ·exact lt_of_row h.blk
theorem Cq.kept {P S:Nat→Prop} {w w':World} {c cl n:Nat} {A:Int→Option V} (h:Cq P w c cl n A) (ho:Only w w' S) (hd:∀ j,P j→¬ S j):Cq P w' c cl n A:=by
 refine ⟨h.1,?_⟩
 rcases h.2 with ⟨h1,h2⟩ | ⟨r,Y,h1,h2⟩
 ·exact Or.inl ⟨ho.blk (hd c h.1) h1,h2⟩
 ·exact Or.inr ⟨r,Y,h1.kept ho (hd c h.1) (fun j q=>hd j (h2 j q)),h2⟩
theorem Cq.below {P:Nat→Prop} {w w':World} {c cl n:Nat} {A:Int→Option V} (h:Cq P w c cl n A) (hb:Below w.heap.size w w'):Cq P w' c cl n A:=h.kept (Only.of_below (S:=fun _=>False) hb) (fun _ _ q=>q)
theorem Cq.mono {P P':Nat→Prop} {w:World} {c cl n:Nat} {A:Int→Option V} (h:Cq P w c cl n A) (hp:∀ j,P j→P' j):Cq P' w c cl n A:=by
 refine ⟨hp c h.1,?_⟩
 rcases h.2 with h1 | ⟨r,Y,h1,h2⟩
 ·exact Or.inl h1
 ·exact Or.inr ⟨r,Y,h1,fun j q=>hp j (h2 j q)⟩
theorem Cq.tight {P:Nat→Prop} {w:World} {c cl n:Nat} {A:Int→Option V} (h:Cq P w c cl n A):Cq (fun j=>P j∧j<w.heap.size) w c cl n A:=by
 refine ⟨⟨h.1,h.lt⟩,?_⟩
 rcases h.2 with h1 | ⟨r,Y,h1,h2⟩
 ·exact Or.inl h1
 ·exact Or.inr ⟨r,Y,h1,fun j q=>⟨h2 j q,h1.ob.lt j q⟩⟩
theorem Cq.ids {P:Nat→Prop} {w:World} {c cl n:Nat} {A:Int→Option V} (h:Cq P w c cl n A) {k:Int} {v:V} (hk:A k=some v):v.2.2=k∧ok v∧(KL k).wf=true∧0<n:=by
 rcases h.2 with ⟨_,_,h1⟩ | ⟨r,Y,h1,h2⟩
 ·rw [h1] at hk;cases hk
 ·exact ⟨h1.ids k v hk,(h1.ob.okV hk).1,(h1.ob.okV hk).2,h1.ob.pos hk⟩
theorem Cq.zero {P:Nat→Prop} {w:World} {c cl:Nat} {A:Int→Option V} (h:Cq P w c cl 0 A) (k:Int):A k=none:=by
 rcases h.2 with ⟨_,_,h1⟩ | ⟨r,Y,h1,h2⟩
 ·rw [h1]
 ·exact h1.ob.zero k
theorem Cq.clock {P:Nat→Prop} {w:World} {c cl n:Nat} {A:Int→Option V} (h:Cq P w c cl n A):w.cell? ⟨c,1,none⟩=some (.int .u64 (cl:Int)):=by
 rcases h.2 with ⟨h1,_⟩ | ⟨r,Y,h1,h2⟩
 ·exact cell_of_row _ _ 1 _ _ _ h1
 ·exact cell_of_row _ _ 1 _ _ _ h1.blk
theorem w_new (w:World):Calls Tryz.prog 125 #[] w fun e w'=>e=.returned (.pointer (some ⟨w.heap.size,0,none⟩))∧Cq (fun j=>j=w.heap.size) w' w.heap.size 0 0 (fun _=>none)∧Below w.heap.size w w':=by
 go_enter Tryz.func125,Tryz.ntmps125
 go_wp2
 go_ret
 exact ⟨rfl,⟨rfl,Or.inl ⟨heap_alloc_new w _,rfl,rfl⟩⟩,(Below.refl _ _).alloc (Nat.le_refl _) _⟩
theorem all_any {P:Nat→Prop} (w:World) (c cl n:Nat) (A:Int→Option V) (h:Cq P w c cl n A) (hP:∀ j,w.heap.size≤j→P j) :
  Calls Tryz.prog 159 #[.pointer (some ⟨c,0,none⟩)] w fun e w'=>∃ r Y,e=.returned (.pointer (some ⟨r,0,none⟩))∧Ca w' c r cl n A Y∧(∀ j,Y j→P j)∧Only w w' (fun j=>j=c):=by
 rcases h.2 with ⟨h1,h2,h3⟩ | ⟨r,Y,h1,h2⟩
 ·have c0:=cell_of_row _ _ 0 _ _ _ h1
  have HB:=Lib.hid h1;have hclt:=lt_of_row h1;clear h1
  go_enter Tryz.func159,Tryz.ntmps159
  go_wp2_with fail
  refine (new_any _ _ _ w).mono ?_;rintro e w1 ⟨rfl,ob1,b1⟩;have ho1:Only w w1 (fun j=>j=c):=Only.of_below b1;have HB1:=Lib.hid ((Only.of_below (S:=fun _=>False) b1).blk (fun q=>q) HB.out);clear c0;go_upto_region 3 with (with_reducible refine wpList_store_one rfl 226 (.tmp 11) (.tmp 9) rfl sizePt c 0 rfl (.pointer (some ⟨w.heap.size,0,none⟩)) rfl (cells_ptr _) (one_ptr _) [.pointer none,.int .u64 (cl:Int)] 228 HB1.out (len2_0 _ _) ?_;intro w2 HB2 hg2)
  have ho2:Only w1 w2 (fun j=>j=c):=Only.grown hg2 (Or.inl rfl);have HB3:Hid (w2.heap[c]?=some (.cells #[.pointer (some ⟨w.heap.size,0,none⟩),.int .u64 (cl:Int)] 228 (0,0))):=HB2;have c0:=cell_of_row _ _ 0 _ _ _ HB3.out;go_wp2_with fail
  go_ret
  refine ⟨w.heap.size,_,rfl,⟨HB3.out,by rw [h2,h3];exact ob1.kept ho2 (fun j q e=>by omega),by omega,fun k v q=>by rw [h3] at q;cases q⟩,fun j q=>hP j (by omega),ho1.tr ho2⟩
 ·have c0:=cell_of_row _ _ 0 _ _ _ h1.blk
  go_enter Tryz.func159,Tryz.ntmps159
  go_wp2_with fail
  go_ret
  exact ⟨r,Y,rfl,h1,h2,Only.refl _ _⟩
theorem w_drop0 {P:Nat→Prop} (w:World) (c cl n:Nat) (A:Int→Option V) (k:Int) (h:Cq P w c cl n A) (hk:(KL k).wf=true) (hA:A k=none) (hP:∀ j,w.heap.size≤j→P j) :
  Calls Tryz.prog 145 #[.pointer (some ⟨c,0,none⟩),.int .i64 k] w fun e w'=>e=.returned (.bool false)∧Cq P w' c cl n A∧Only w w' P:=by
 have hall:=all_any w c cl n A h hP;have hPc:=h.1;have HA:=Lib.hid hA;clear h hA
 go_enter Tryz.func145,Tryz.ntmps145
 go_wp2_with fail
 refine hall.mono ?_;rintro e w1 ⟨r,Y,rfl,h1,h2,o1⟩;clear hall;go_wp2_with fail
 refine (drop_none n A Y k w1 h1.ob hk HA.out).mono ?_;rintro e w2 ⟨rfl,rfl⟩;go_wp2_with fail
 go_ret
 exact ⟨rfl,⟨hPc,Or.inr ⟨r,Y,h1,h2⟩⟩,o1.mono (fun j q=>by rw [q];exact hPc)⟩
theorem Ca.dropped {P:Nat→Prop} {w w':World} {c r cl n n1:Nat} {A:Int→Option V} {Y Y':Nat→Prop} {k:Int} (h:Ca w c r cl n A Y) (hY:∀ j,Y j→P j) (hP:∀ j,w.heap.size≤j→P j) (g1:Ob w' r F45 n1 (updZ A k none) Y') (g2:∀ j,Y' j→Y j∨w.heap.size≤j) (g5:Only w w' (fun j=>Y j∨False)) :
  Ca w' c r cl n1 (updZ A k none) Y'∧∀ j,Y' j→P j:=by
 have hc:=lt_of_row h.blk;refine ⟨⟨g5.blk (fun q=>q.elim h.ne id) h.blk,g1,fun q=>?_,fun k' v q=>?_⟩,fun j q=>?_⟩
 ·rcases g2 c q with q | q
  ·exact h.ne q
  ·omega
 ·unfold updZ at q;split at q
  ·cases q
  ·exact h.ids k' v q
 ·rcases g2 j q with q | q
  ·exact hY j q
  ·exact hP j q
theorem w_drop {P:Nat→Prop} (w:World) (c cl n:Nat) (A:Int→Option V) (k:Int) (v:V) (h:Cq P w c cl n A) (hA:A k=some v) (hn:n<1073741824) (n1:Nat) (hn1:n=n1+1) (hP:∀ j,w.heap.size≤j→P j) :
  Calls Tryz.prog 145 #[.pointer (some ⟨c,0,none⟩),.int .i64 k] w fun e w'=>e=.returned (.bool true)∧Cq P w' c cl n1 (updZ A k none)∧Only w w' P:=by
 have hall:=all_any w c cl n A h hP;have hPc:=h.1;have hk:=(h.ids hA).2.2.1;have HA:=Lib.hid hA;have HN1:=Lib.hid hn1;clear h hA hn1
 go_enter Tryz.func145,Tryz.ntmps145
 go_wp2_with fail
 refine hall.mono ?_;rintro e w1 ⟨r,Y,rfl,h1,h2,o1⟩;clear hall;go_wp2_with fail
 refine (drop_some (less45 r) n A Y k v w1 h1.ob hk HA.out hn 0 (by decide) trivial (fun _ q=>q.elim) (fun _ q=>q.elim) n1 HN1.out).mono ?_
 rintro e w2 ⟨rfl,Y',a,g1,g2,_,_,g5⟩;have hP1:∀ j,w1.heap.size≤j→P j:=fun j q=>hP j (Nat.le_trans o1.size q);obtain ⟨h3,h4⟩:=h1.dropped h2 hP1 g1 g2 g5;go_wp2_with fail
 go_ret
 exact ⟨rfl,⟨hPc,Or.inr ⟨r,Y',h3,h4⟩⟩,(o1.mono (fun j q=>by rw [q];exact hPc)).tr (g5.mono (fun j q=>q.elim (h2 j) (fun q=>q.elim)))⟩
theorem mul_u64 {o k y:Nat} (hy:y=o*k) (h:y<18446744073709551616):IntKind.u64.wrap ((o:Int)*(k:Int))=(y:Int):=by
 rw [IntKind.wrap_u64,←Int.natCast_mul,←hy];omega
theorem Ca.put {P:Nat→Prop} {w w':World} {c r cl n n1:Nat} {A:Int→Option V} {Y Y':Nat→Prop} {k:Int} {u m:Nat} (h:Ca w c r cl n A Y) (hY:∀ j,Y j→P j) (hP:∀ j,w.heap.size≤j→P j) (g1:Ob w' r F45 n1 (updZ A k (some (u,m,k))) Y') (g2:∀ j,Y' j→Y j∨w.heap.size≤j) (g5:Only w w' (fun j=>Y j∨False)) :
  Ca w' c r cl n1 (updZ A k (some (u,m,k))) Y'∧∀ j,Y' j→P j:=by
 have hc:=lt_of_row h.blk;refine ⟨⟨g5.blk (fun q=>q.elim h.ne id) h.blk,g1,fun q=>?_,fun k' v q=>?_⟩,fun j q=>?_⟩
 ·rcases g2 c q with q | q
  ·exact h.ne q
  ·omega
 ·unfold updZ at q;split at q
  ·rename_i e;cases q;exact e.symm
  ·exact h.ids k' v q
 ·rcases g2 j q with q | q
  ·exact hY j q
  ·exact hP j q
theorem w_set {P:Nat→Prop} (w:World) (c cl n:Nat) (A:Int→Option V) (id:Int) (o k m u:Nat) (h:Cq P w c cl n A) (hid:(KL id).wf=true) (hcl:cl<18446744073709551616) (hok:o*k<18446744073709551616) (hm0:0<m) (hm1:m<18446744073709551616) (hu:u=cl*m+o*k) (hu64:u<18446744073709551616) (hn:n<1073741823) (n':Nat) (hn':n'=if (A id).isSome then n else n+1) (hP:∀ j,w.heap.size≤j→P j) :
    Calls Tryz.prog 175 #[.pointer (some ⟨c,0,none⟩),.int .i64 id,.int .u64 (o:Int),.int .u64 (k:Int),.int .u64 (m:Int)] w fun e w'=>e=.returned (.bool true)∧Cq P w' c cl n' (updZ A id (some (u,m,id)))∧Only w w' P:=by
  have c1:=h.clock;have hclt:=h.lt;obtain ⟨y,hy⟩:∃ y,y=o*k:=⟨_,rfl⟩;have hm:=mul_u64 hy (by omega)
  have huI:(cl:Int)*(m:Int)+(y:Int)=(u:Int):=by rw [hu,hy];simp
  have hab:=fun w=>above_yes (cl:Int) (y:Int) (m:Int) (u64n hcl) (u64n (by omega)) (u64n hm1) ⟨by omega,by rw [huI];omega⟩ w
  rw [huI] at hab;have hokv:ok (u,m,id):=⟨hu64,hm0,hm1,hid⟩;have HN':=Lib.hid hn';clear hy hok hu hn' huI
  go_enter Tryz.func175,Tryz.ntmps175
  go_wp2_with fail
  refine (hab _).mono ?_;rintro e w1 ⟨rfl,x,hw1⟩;have b1:Below w.heap.size w w1:=by rw [←hw1];exact (Below.refl _ _).alloc (Nat.le_refl _) _
  clear hab hw1;go_upto_region 4 with (fail)
  have b2:Below w.heap.size w (w1.alloc (.cells #[.int .u64 (u:Int),.int .u64 (m:Int)] 240)):=b1.trans (((Below.refl w1.heap.size w1).alloc (Nat.le_refl _) _).mono b1.size);have HBX:=Lib.hid (heap_alloc_new w1 (.cells #[.int .u64 (u:Int),.int .u64 (m:Int)] 240));obtain ⟨H,hH⟩:∃ H,w1.heap.size=H:=⟨_,rfl⟩;have hHw:w.heap.size≤H:=by rw [←hH];exact b1.size
  rw [hH] at HBX;rw [hH];have hx:Cq (fun j=>P j∧j≠H) (w1.alloc (.cells #[.int .u64 (u:Int),.int .u64 (m:Int)] 240)) c cl n A:=(h.tight.below b2).mono (fun j q=>⟨q.1,by omega⟩)
  clear hH c1;have hHlt:=lt_of_row HBX.out;generalize w1.alloc (.cells #[.int .u64 (u:Int),.int .u64 (m:Int)] 240)=w2 at b2 HBX hx hHlt ⊢;have hPx:∀ j,w2.heap.size≤j→(fun j=>P j∧j≠H) j:=fun j q=>⟨hP j (Nat.le_trans b2.size q),by omega⟩
  have e0:=cell_of_row _ _ 0 _ _ _ HBX.out;have e1:=cell_of_row _ _ 1 _ _ _ HBX.out;have hHc:H≠c:=by omega
  have hxd:Cq (fun j=>P j∧j≠H) w2.drew c cl n A:=hx.kept ((Only.refl w2 (fun _=>False)).drewN 1) (fun _ _ q=>q);have hPd:∀ j,w2.drew.heap.size≤j→(fun j=>P j∧j≠H) j:=hPx;have e0d:w2.drew.cell? ⟨H,0,none⟩=some (.int .u64 (u:Int)):=e0;have e1d:w2.drew.cell? ⟨H,1,none⟩=some (.int .u64 (m:Int)):=e1
  go_region_with (first
    | (go_at_call 159;refine (all_any _ c cl n A hxd hPd).mono ?_;rintro e w3 ⟨r,Y,rfl,h3,h4,o3⟩;have f0:=o3.cell (x:=⟨H,0,none⟩) hHc e0d;have f1:=o3.cell (x:=⟨H,1,none⟩) hHc e1d)
    | (go_at_call 190;refine (set_any (less45 r) n A Y id u m id _ h3.ob hid hokv hn 0 (by decide) trivial (fun _ q=>q.elim) (fun _ q=>q.elim) n' HN'.out).mono ?_;rintro e w4 ⟨rfl,Y',a,g1,g2,_,_,g5⟩))
  all_goals
    (
     go_wp2_with fail
     go_ret
     obtain ⟨h5,h6⟩:=h3.put h4 (fun j q=>hPd j (Nat.le_trans o3.size q)) g1 g2 g5;exact ⟨rfl,⟨hx.1.1,Or.inr ⟨r,Y',h5,fun j q=>(h6 j q).1⟩⟩,(((Only.of_below (S:=P) b2).drewN 1).tr (o3.mono (fun j q=>by rw [q];exact hx.1.1))).tr (g5.mono (fun j q=>q.elim (fun q=>(h4 j q).1) (fun q=>q.elim)))⟩)
theorem w_evict0 {P:Nat→Prop} (w:World) (c cl:Nat) (A:Int→Option V) (h:Cq P w c cl 0 A) (hP:∀ j,w.heap.size≤j→P j) :
  Calls Tryz.prog 162 #[.pointer (some ⟨c,0,none⟩)] w fun e w'=>e=.returned (.tuple #[.int .i64 0,.bool false])∧Cq P w' c cl 0 A∧Only w w' P:=by
 have hall:=all_any w c cl 0 A h hP;have hPc:=h.1;clear h
 go_enter Tryz.func162,Tryz.ntmps162
 go_wp2_with fail
 refine hall.mono ?_;rintro e w1 ⟨r,Y,rfl,h1,h2,o1⟩;clear hall;go_wp2_with fail
 refine (min_none r F45 A Y w1 h1.ob).mono ?_;rintro e w2 ⟨rfl,b2⟩;have h3:=h1.kept (Only.of_below (S:=fun _=>False) b2) (fun q=>q) (fun _ _ q=>q);have o2:Only w w2 P:=(o1.mono (fun j q=>by rw [q];exact hPc)).tr (Only.of_below b2)
 go_wp2_with fail
 go_ret2
 have o3:=o2.alloc (.cells #[.int .u64 0,.int .u64 0,.int .i64 0] 242);exact ⟨rfl,⟨hPc,Or.inr ⟨r,Y,h3.kept (Only.alloc (Only.refl _ (fun _=>False)) _) (fun q=>q) (fun _ _ q=>q),h2⟩⟩,o3⟩
theorem floor_below {w w1 w2:World} {x y:Array Value} {t:TypeId} (h:Below w.heap.size w w1) (e:(w1.alloc (.cells x t)).alloc (.cells y t)=w2):Below w.heap.size w w2:=by
 rw [←e];have:=h.size
 exact (h.alloc this _).alloc (by simp;omega) _
theorem Ca.clocked {w:World} {c r cl n:Nat} {A:Int→Option V} {Y:Nat→Prop} (h:Ca w c r cl n A Y) (cl':Nat):Ca (w.setCell ⟨c,1,none⟩ (.int .u64 (cl':Int))) c r cl' n A Y∧Only w (w.setCell ⟨c,1,none⟩ (.int .u64 (cl':Int))) (fun j=>j=c):=by
 have ho:Only w (w.setCell ⟨c,1,none⟩ (.int .u64 (cl':Int))) (fun j=>j=c):=Only.grown (grown_set w 0 c 1 _) (Or.inl rfl);have hb:=set_rowL (cs:=[.pointer (some ⟨r,0,none⟩),.int .u64 (cl:Int)]) h.blk 1 (.int .u64 (cl':Int));exact ⟨⟨hb,h.ob.kept ho (fun j q e=>h.ne (by rw [←e];exact q)),h.ne,h.ids⟩,ho⟩
theorem evict_end {P:Nat→Prop} {w w6 w8:World} {c r cl n1:Nat} {A:Int→Option V} {Y:Nat→Prop} (hPc:P c) (h:Ca w6 c r cl n1 A Y) (hY:∀ j,Y j→P j) (o:Only w w6 P) (b:Below w6.heap.size w6 w8) (cl':Nat) :
  Cq P (w8.setCell ⟨c,1,none⟩ (.int .u64 (cl':Int))) c cl' n1 A∧Only w (w8.setCell ⟨c,1,none⟩ (.int .u64 (cl':Int))) P:=by
 obtain ⟨h1,h2⟩:=(h.kept (Only.of_below (S:=fun _=>False) b) (fun q=>q) (fun _ _ q=>q)).clocked cl';exact ⟨⟨hPc,Or.inr ⟨r,Y,h1,hY⟩⟩,(o.tr (Only.of_below b)).tr (h2.mono (fun j q=>by rw [q];exact hPc))⟩
theorem w_evict {P:Nat→Prop} (w:World) (c cl n:Nat) (A:Int→Option V) (h:Cq P w c cl n A) (n1:Nat) (hn1:n=n1+1) (hn2:n<1073741824) (hP:∀ j,w.heap.size≤j→P j) :
    Calls Tryz.prog 162 #[.pointer (some ⟨c,0,none⟩)] w fun e w'=>∃ (id:Int) (v:V),e=.returned (.tuple #[.int .i64 id,.bool true])∧A id=some v∧(∀ k' v',A k'=some v'→lt v' v=false)∧Cq P w' c (max cl (v.1 / v.2.1)) n1 (updZ A id none)∧Only w w' P:=by
  have hall:=all_any w c cl n A h hP;have hPc:=h.1;have hclt:=h.lt;have HN1:=Lib.hid hn1;have hnpos:0<n:=by omega
  clear h hn1
  go_enter Tryz.func162,Tryz.ntmps162
  go_wp2_with fail
  refine hall.mono ?_;rintro e w1 ⟨r,Y,rfl,h1,h2,o1⟩;clear hall;go_wp2_with fail
  refine (min_some r F45 n A Y w1 h1.ob hnpos hn2).mono ?_;rintro e w2 ⟨k,p,q,d,rfl,hA,hmin,b2⟩;have h3:=h1.kept (Only.of_below (S:=fun _=>False) b2) (fun q=>q) (fun _ _ q=>q);have o2:Only w w2 P:=(o1.mono (fun j q=>by rw [q];exact hPc)).tr (Only.of_below b2)
  have hokv:=h3.ob.okV hA;have HA:=Lib.hid hA;have HMIN:=Lib.hid hmin;clear hA hmin;go_upto_region 4 with (fail)
  have hO3:Only w2 (w2.alloc (.cells #[.int .u64 (p:Int),.int .u64 (q:Int),.int .i64 d] 242)) (fun _=>False):=(Only.refl _ _).alloc _;have HBX:=Lib.hid (heap_alloc_new w2 (.cells #[.int .u64 (p:Int),.int .u64 (q:Int),.int .i64 d] 242));obtain ⟨H,hH⟩:∃ H,w2.heap.size=H:=⟨_,rfl⟩;have hYH:∀ j,Y j→P j∧j≠H:=fun j q=>⟨h2 j q,by have:=h3.ob.lt j q;omega⟩
  have hcH:c≠H:=by have:=lt_of_row h3.blk;omega
  have hHw:w.heap.size≤H:=by rw [←hH];exact o2.size
  rw [hH] at HBX;rw [hH];clear hH;generalize w2.alloc (.cells #[.int .u64 (p:Int),.int .u64 (q:Int),.int .i64 d] 242)=w3 at hO3 HBX ⊢;have h4:=h3.kept hO3 (fun q=>q) (fun _ _ q=>q);have hHlt:=lt_of_row HBX.out;have hP3:∀ j,w3.heap.size≤j→(fun j=>P j∧j≠H) j:=fun j q=>⟨hP j (by have:=o2.size;have:=hO3.size;omega),by omega⟩
  have o3:Only w w3 P:=o2.trans hO3 (fun _ q=>q.elim);have hall:=all_any w3 c cl n A ⟨⟨hPc,hcH⟩,Or.inr ⟨r,Y,h4,hYH⟩⟩ hP3;clear h3 h1 h2 o1 o2 h4 hYH b2;go_wp2_with fail
  refine hall.mono ?_;rintro e w4 ⟨r4,Y4,rfl,h5,h6,o5⟩;clear hall;have HBX4:=Lib.hid (o5.blk (fun q=>hcH q.symm) HBX.out);go_wp2_with fail
  refine (drop_some (less45 r4) n A Y4 k (p,q,d) w4 h5.ob hokv.2 HA.out hn2 0 (by decide) trivial (fun _ q=>q.elim) (fun _ q=>q.elim) n1 HN1.out).mono ?_
  rintro e w6 ⟨rfl,Y',a,g1,g2,_,_,g5⟩;have hP4:∀ j,w4.heap.size≤j→(fun j=>P j∧j≠H) j:=fun j q=>hP3 j (Nat.le_trans o5.size q);obtain ⟨h7,h8⟩:=h5.dropped h6 hP4 g1 g2 g5;have HBX6:=Lib.hid (g5.blk (fun q=>q.elim (fun q=>(h6 H q).2 rfl) id) HBX4.out);have o6:Only w w6 P:=(o3.tr (o5.mono (fun j q=>by rw [q];exact hPc))).tr (g5.mono (fun j q=>q.elim (fun q=>(h6 j q).1) (fun q=>q.elim)))
  obtain ⟨⟨hp64,hq0,hq64,_⟩,_⟩:=hokv;have c1:=cell_of_row _ _ 1 _ _ _ h7.blk;have z0:=cell_of_row _ _ 0 _ _ _ HBX6.out;have z1:=cell_of_row _ _ 1 _ _ _ HBX6.out;obtain ⟨f,hf⟩:∃ f,f=p / q:=⟨_,rfl⟩;have hfl:=fun w=>floor_any (p:Int) (q:Int) (u64n hp64) (u64n hq64) w;have hfi:(p:Int) / (q:Int)=(f:Int):=by rw [hf];exact (Int.natCast_ediv p q).symm
  rw [hfi] at hfl;have HF:=Lib.hid hf;clear HBX4 HBX h5 h6 g5 o5 g1 g2 hf hfi;have c1d:w6.drew.cell? ⟨c,1,none⟩=some (.int .u64 (cl:Int)):=c1;have z0d:w6.drew.cell? ⟨H,0,none⟩=some (.int .u64 (p:Int)):=z0;have z1d:w6.drew.cell? ⟨H,1,none⟩=some (.int .u64 (q:Int)):=z1;have hd6:Below w6.heap.size w6 w6.drew:=below_drewN (Below.refl _ _) 1;have hclt6:=lt_of_row h7.blk;have hHlt6:=lt_of_row HBX6.out;go_upto_region 5 with (fail)
  by_cases hgt:cl<f
  · have hgi:(cl:Int)<(f:Int):=by omega
    have hmx:max cl f=f:=by omega
    have HMX:=Lib.hid (show max (cl:Int) (f:Int)=(f:Int) by omega)
    go_region_with (first
      | (go_at_call 183;refine (hfl _).mono ?_;rintro e w8 ⟨rfl,x,y,hw8⟩;have b8:=floor_below hd6 hw8;have k1:=(Only.of_below (S:=fun _=>False) b8).cell (x:=⟨c,1,none⟩) (fun q=>q) c1;have k2:=frozen_of_row w8 c 1 _ _ ((Only.of_below (S:=fun _=>False) b8).blk (fun q=>q) h7.blk);clear hw8))
    all_goals
      (
       go_wp2_with fail
       go_ret2
       try rw [HMX.out]
       obtain ⟨h9,o9⟩:=evict_end hPc h7 (fun j q=>(h8 j q).1) o6 b8 f;exact ⟨k,(p,q,d),rfl,HA.out,HMIN.out,by show Cq P _ c (max cl (p / q)) n1 _;rw [←HF.out,hmx];exact h9,o9⟩)
  · have hgi:decide ((cl:Int)<(f:Int))=false:=by simp;omega
    have hmx:max cl f=cl:=by omega
    have HMX:=Lib.hid (show max (cl:Int) (f:Int)=(cl:Int) by omega)
    go_region_with (first
      | (go_at_call 183;refine (hfl _).mono ?_;rintro e w8 ⟨rfl,x,y,hw8⟩;have b8:=floor_below hd6 hw8;have k1:=(Only.of_below (S:=fun _=>False) b8).cell (x:=⟨c,1,none⟩) (fun q=>q) c1;have k2:=frozen_of_row w8 c 1 _ _ ((Only.of_below (S:=fun _=>False) b8).blk (fun q=>q) h7.blk);clear hw8))
    all_goals
      (
       go_wp2_with fail
       go_ret2
       try rw [HMX.out]
       obtain ⟨h9,o9⟩:=evict_end hPc h7 (fun j q=>(h8 j q).1) o6 b8 cl;exact ⟨k,(p,q,d),rfl,HA.out,HMIN.out,by show Cq P _ c (max cl (p / q)) n1 _;rw [←HF.out,hmx];exact h9,o9⟩)
end Go.Proofs.YthdengocipfgiaaGreat.W.HR
