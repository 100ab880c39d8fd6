import Derived.Test.YthdengocipfgiaaGreatRows
import Derived.Test.YthdengocipfgiaaGreatCaA
import Derived.Deep.CutBlock
/- A part of what core's laws stand on. -/
set_option linter.unusedVariables false
set_option linter.unusedSimpArgs false
set_option maxRecDepth 100000
set_option maxHeartbeats 1600000
namespace Go.Proofs.YthdengocipfgiaaGreat.W.HR
open Go.RowKit
abbrev V:=Nat×Nat×Int
abbrev ic (x:Int×V):List Value:=[.int .i64 x.1,.int .u64 (x.2.1:Int),.int .u64 (x.2.2.1:Int),.int .i64 x.2.2.2]
abbrev vv (x:V):Value:=.agg #[.int .u64 (x.1:Int),.int .u64 (x.2.1:Int),.int .i64 x.2.2]
theorem enc:Enc ic 4:=⟨fun _=>rfl,by decide,fun x u hu=>by simp at hu;rcases hu with rfl | rfl | rfl | rfl <;> rfl⟩
def lt (a b:V):Bool:=decide (a.1*b.2.1<b.1*a.2.1∨(a.1*b.2.1=b.1*a.2.1∧a.2.2<b.2.2))
def ok (v:V):Prop:=v.1<18446744073709551616∧0<v.2.1∧v.2.1<18446744073709551616∧(KL v.2.2).wf=true
theorem odr:Odr lt ok:=by
 have key:∀ a b:V,lt a b=false↔(b.1*a.2.1<a.1*b.2.1∨(b.1*a.2.1=a.1*b.2.1∧b.2.2≤a.2.2)):=by
  intro a b;unfold lt;rw [decide_eq_false_iff_not]
  constructor
  ·intro h
   rcases Nat.lt_trichotomy (a.1*b.2.1) (b.1*a.2.1) with q | q | q
   ·exact absurd (Or.inl q) h
   ·refine Or.inr ⟨q.symm,Int.not_lt.1 (fun q'=>h (Or.inr ⟨q,q'⟩))⟩
   ·exact Or.inl q
  ·rintro (h | ⟨h,h'⟩) (q | ⟨q,q'⟩)
   ·omega
   ·omega
   ·omega
   ·exact absurd q' (Int.not_lt.2 h')
 refine ⟨fun a b ha hb h=>?_,fun a b c ha hb hc h h'=>?_⟩
 ·rw [key]
  rcases of_decide_eq_true h with q | ⟨q,q'⟩
  ·exact Or.inl q
  ·exact Or.inr ⟨q,Int.le_of_lt q'⟩
 ·rw [key] at h h' ⊢
  obtain ⟨_,ha,_⟩:=ha;obtain ⟨_,hb,_⟩:=hb;obtain ⟨_,hc,_⟩:=hc;have s1:b.1*a.2.1≤a.1*b.2.1:=by omega
  have s2:c.1*b.2.1≤b.1*c.2.1:=by omega
  have m1:=Nat.mul_le_mul_right c.2.1 s1;have m2:=Nat.mul_le_mul_right a.2.1 s2;have e1:b.1*a.2.1*c.2.1=b.1*c.2.1*a.2.1:=Nat.mul_right_comm _ _ _;have e2:c.1*b.2.1*a.2.1=c.1*a.2.1*b.2.1:=Nat.mul_right_comm _ _ _;have e3:a.1*b.2.1*c.2.1=a.1*c.2.1*b.2.1:=Nat.mul_right_comm _ _ _;have m3:c.1*a.2.1*b.2.1≤a.1*c.2.1*b.2.1:=by omega
  have m4:c.1*a.2.1≤a.1*c.2.1:=Nat.le_of_mul_le_mul_right m3 hb
  rcases Nat.lt_or_ge (c.1*a.2.1) (a.1*c.2.1) with q | q
  ·exact Or.inl q
  ·have q1:c.1*a.2.1=a.1*c.2.1:=by omega
   right;refine ⟨q1,?_⟩;have m5:c.1*a.2.1*b.2.1=a.1*c.2.1*b.2.1:=by rw [q1]
   have t1:b.1*a.2.1=a.1*b.2.1:=by
    have:b.1*a.2.1*c.2.1=a.1*b.2.1*c.2.1:=by omega
    exact Nat.eq_of_mul_eq_mul_right hc this
   have t2:c.1*b.2.1=b.1*c.2.1:=by
    have:c.1*b.2.1*a.2.1=b.1*c.2.1*a.2.1:=by omega
    exact Nat.eq_of_mul_eq_mul_right ha this
   rcases h with h | ⟨_,h⟩
   ·omega
   ·rcases h' with h' | ⟨_,h'⟩
    ·omega
    ·exact Int.le_trans h' h
theorem sizeIt:(Tryz.prog.info? 259).map (·.size)=some 4:=by kernel_rfl
theorem zeroI (w:World):(zeroValue 3).run Tryz.prog w=.ok (.int .i64 0) w:=by kernel_rfl
structure St (w:World) (r:Nat) (Fv:Value) (g cap b n:Nat) (T:Nat→Int×V) (M:Int→Option Nat) (c:Nat):Prop where
 blk:w.heap[r]?=some (.cells #[Fv,.slice (some ⟨g,0,none⟩) n cap,.map (some b)] 257 (0,0))
 row:Row ic 4 259 w g n cap T
 mp:Mp Tryz.prog 3 w b (fun k=>(M k).map (fun j:Nat=>Value.int .i64 (j:Int))) c
 rg:r≠g
 rb:r≠b
 gb:g≠b
 keys:∀ j,j<n→(KL (T j).1).wf=true
theorem mapZ (M:Int→Option Nat) (k:Int) (i:Nat):(fun k'=>(updZ M k (some i) k').map (fun j:Nat=>Value.int .i64 (j:Int)))=updZ (fun k'=>(M k').map (fun j:Nat=>Value.int .i64 (j:Int))) k (some (.int .i64 (i:Int))):=by
 funext k';unfold updZ;split <;> rfl
theorem St.kept {w w':World} {r:Nat} {Fv:Value} {g cap b n:Nat} {T:Nat→Int×V} {M:Int→Option Nat} {c:Nat} {S:Nat→Prop} (h:St w r Fv g cap b n T M c) (ho:Only w w' S) (hr:¬ S r) (hg:¬ S g) (hb:¬ S b):St w' r Fv g cap b n T M c :=
 ⟨ho.blk hr h.blk,h.row.kept ho hg,h.mp.kept ho hb,h.rg,h.rb,h.gb,h.keys⟩
theorem St.c0 {w:World} {r:Nat} {Fv:Value} {g cap b n:Nat} {T:Nat→Int×V} {M:Int→Option Nat} {c:Nat} (h:St w r Fv g cap b n T M c):w.cell? ⟨r,0,none⟩=some Fv:=cell_of_row _ _ _ _ _ _ h.blk
theorem St.c1 {w:World} {r:Nat} {Fv:Value} {g cap b n:Nat} {T:Nat→Int×V} {M:Int→Option Nat} {c:Nat} (h:St w r Fv g cap b n T M c):w.cell? ⟨r,1,none⟩=some (.slice (some ⟨g,0,none⟩) n cap):=cell_of_row _ _ _ _ _ _ h.blk
theorem St.c2 {w:World} {r:Nat} {Fv:Value} {g cap b n:Nat} {T:Nat→Int×V} {M:Int→Option Nat} {c:Nat} (h:St w r Fv g cap b n T M c):w.cell? ⟨r,2,none⟩=some (.map (some b)):=cell_of_row _ _ _ _ _ _ h.blk
theorem put_any (r:Nat) (Fv:Value) (g cap b n:Nat) (T:Nat→Int×V) (M:Int→Option Nat) (c:Nat) (i:Nat) (k:Int) (p q:Nat) (d:Int) (w:World) (h:St w r Fv g cap b n T M c) (hi:i<n) (hk:(KL k).wf=true) (hc:c<maxLen) (c':Nat) (hc':c'=if (M k).isSome then c else c+1) :
  Calls Tryz.prog 194 #[.pointer (some ⟨r,0,none⟩),.int .i64 (i:Int),.agg #[.int .i64 k,.int .u64 (p:Int),.int .u64 (q:Int),.int .i64 d]] w fun e w'=>e=.returned (.tuple #[])∧St w' r Fv g cap b n (upd T i (k,(p,q,d))) (updZ M k (some i)) c'∧Only w w' (fun j=>j=g∨j=b):=by
 have HC:=Lib.hid hc';clear hc';have hr1:=lt_of_row h.blk;have hg1:=h.row.lt;have hb1:=h.mp.lt;have ho:Only w (w.alloc (.cells #[.int .i64 k,.int .u64 (p:Int),.int .u64 (q:Int),.int .i64 d] 259)) (fun j=>j=g∨j=b):=(Only.refl w _).alloc _;have h2:=h.kept (Only.alloc (Only.refl w (fun _=>False)) (.cells #[.int .i64 k,.int .u64 (p:Int),.int .u64 (q:Int),.int .i64 d] 259)) (fun q=>q) (fun q=>q) (fun q=>q);have hH:(w.alloc (.cells #[.int .i64 k,.int .u64 (p:Int),.int .u64 (q:Int),.int .i64 d] 259)).heap[w.heap.size]?=some (.cells #[.int .i64 k,.int .u64 (p:Int),.int .u64 (q:Int),.int .i64 d] 259):=heap_alloc_new w _;have hHs:w.heap.size<(w.alloc (.cells #[.int .i64 k,.int .u64 (p:Int),.int .u64 (q:Int),.int .i64 d] 259)).heap.size:=lt_of_row hH;have hnH:w.heap.size≠g∧w.heap.size≠b:=by omega
 go_enter Tryz.func194,Tryz.ntmps194
 go_wp2
 generalize w.alloc (.cells #[.int .i64 k,.int .u64 (p:Int),.int .u64 (q:Int),.int .i64 d] 259)=w1 at ho h2 hH hHs ⊢;have e1:=h2.c1;have e2:=cell_of_row _ _ 0 _ _ _ hH;have e3:=cell_of_row _ _ 1 _ _ _ hH;have e4:=cell_of_row _ _ 2 _ _ _ hH;have e5:=cell_of_row _ _ 3 _ _ _ hH;have hni:(i:Int)<(n:Int):=by omega
 go_still_tail 7,(by kernel_rfl)
 change wpList _ _ _ _ _ w1.drew;have hd:Only w1 w1.drew (fun _=>False):=(Only.refl w1 _).drewN 1;have h3:=h2.kept hd (fun q=>q) (fun q=>q) (fun q=>q);have hH3:=hd.blk (fun q=>q) hH;have ho3:=ho.trans hd (fun _ q=>q.elim);clear e1 e2 e3 e4 e5 h2 hH ho;generalize w1.drew=w2 at h3 hH3 ho3 hd ⊢;refine wpList_item_set enc rfl 259 (.tmp 12) (.tmp 11) rfl sizeIt g n cap i T rfl (k,(p,q,d)) rfl h3.row hi ?_;intro w3 hrow hg3;have ho4:Only w2 w3 (fun j=>j=g):=Only.grown hg3 (Or.inl rfl);have hb3:=ho4.blk h3.rg h3.blk;have hm3:=h3.mp.kept ho4 (fun q=>h3.gb q.symm);have hH4:=ho4.blk hnH.1 hH3;have ho5:=ho3.trans ho4 (fun _ q=>Or.inl (Or.inl q));have e0:=cell_of_row _ _ 0 _ _ _ hH4;have e2:=cell_of_row _ _ 2 _ _ _ hb3
 go_wp2
 go_still_tail 7,(by kernel_rfl)
 change wpList _ _ _ _ _ w3.drew;have hd2:Only w3 w3.drew (fun _=>False):=(Only.refl w3 _).drewN 1;refine wpList_mp_set rfl (.tmp 16) (.tmp 18) (.tmp 19) 26 rfl 3 3 Tryz.underlying3 Tryz.underlying26 b _ c rfl (hm3.kept hd2 (fun q=>q)) hc k rfl hk (.int .i64 (i:Int)) rfl c' (by rw [HC.out];simp) ?_
 intro w4 hm4 hg4;have ho6:Only w3 w4 (fun j=>j=b):=(hd2.mono (fun _ q=>q.elim)).tr (Only.grown hg4 (Or.inl rfl));clear e0 e2
 go_wp2
 go_end0
 refine ⟨rfl,⟨ho6.blk h3.rb hb3,hrow.kept ho6 h3.gb,?_,h3.rg,h3.rb,h3.gb,?_⟩,ho5.trans ho6 (fun _ q=>Or.inl (Or.inr q))⟩
 ·rw [mapZ];exact hm4
 ·intro j hj
  by_cases e:j=i
  ·subst e;rw [upd_same];exact hk
  ·rw [upd_ne _ _ e];exact h3.keys j hj
structure Less (r:Nat) (Fv:Value) (S:Nat→Prop) (C:Nat→World→Prop):Prop where
 call:∀ (w:World) (m:Nat) (x y:V),w.cell? ⟨r,0,none⟩=some Fv→C m w→m<4611686018427387904→ok x→ok y →
  Calls Tryz.prog 201 #[.pointer (some ⟨r,0,none⟩),vv x,vv y] w fun e w'=>e=.returned (.bool (lt x y))∧C (m+1) w'∧Only w w' S
 keep:∀ (w w':World) (m:Nat) (S':Nat→Prop),C m w→Only w w' S'→(∀ j,S j→¬ S' j)→C m w'
theorem child_any {r:Nat} {Fv:Value} {S:Nat→Prop} {C:Nat→World→Prop} (L:Less r Fv S C) (g cap b n:Nat) (T:Nat→Int×V) (M:Int→Option Nat) (c:Nat) (i:Nat) (w:World) (h:St w r Fv g cap b n T M c) (ho:Hole lt ok n T i)
  (hi:2*i+1<n) (hn:n<1073741824) (m:Nat) (hm:m<4611686018427387904) (hC:C m w) :
  Calls Tryz.prog 202 #[.pointer (some ⟨r,0,none⟩),.int .i64 (i:Int)] w fun e w'=>∃ ch a:Nat,e=.returned (.int .i64 (ch:Int))∧0<ch∧ch<n∧par ch=i ∧
   (∀ j,0<j→j<n→par j=i→lt (T j).2 (T ch).2=false)∧a≤1∧C (m+a) w'∧Only w w' S:=by
 have c1:=h.c1;have hcap:=h.row.cap_;obtain ⟨l,hl⟩:∃ l,l=2*i+1:=⟨_,rfl⟩;obtain ⟨l2,hl2⟩:∃ l2,l2=2*i+2:=⟨_,rfl⟩;have okl:=ho.okV l (by omega) (by omega)
 have w1:IntKind.i64.wrap (2*(i:Int))=2*(i:Int):=wrap_small _ (by omega) (by omega)
 have w2:IntKind.i64.wrap (2*(i:Int)+1)=(l:Int):=by rw [wrap_small _ (by omega) (by omega)];omega
 have w3:IntKind.i64.wrap (2*(i:Int)+2)=(l2:Int):=by rw [wrap_small _ (by omega) (by omega)];omega
 have HL:=Lib.hid hl;have HL2:=Lib.hid hl2;clear hl hl2
 by_cases hr:l2<n
 ·have okr:=ho.okV l2 hr (by have:=HL2.out;omega)
  obtain ⟨⟨kl,pl,ql,dl⟩,hTl⟩:∃ x,T l=x:=⟨_,rfl⟩;obtain ⟨⟨kr,pr,qr,dr⟩,hTr⟩:∃ x,T l2=x:=⟨_,rfl⟩;have hln:(l:Int)<(n:Int):=by have:=HL.out;omega
  have hrn:(l2:Int)<(n:Int):=by omega
  have hl0:l<n:=by have:=HL.out;omega
  have x1:w.cell? ⟨g,l*4+1,none⟩=some (.int .u64 (pl:Int)):=h.row.cell (c:=1) hl0 (by rw [hTl];rfl) rfl
  have x2:w.cell? ⟨g,l*4+2,none⟩=some (.int .u64 (ql:Int)):=h.row.cell (c:=2) hl0 (by rw [hTl];rfl) rfl
  have x3:w.cell? ⟨g,l*4+3,none⟩=some (.int .i64 dl):=h.row.cell (c:=3) hl0 (by rw [hTl];rfl) rfl
  have y1:w.cell? ⟨g,l2*4+1,none⟩=some (.int .u64 (pr:Int)):=h.row.cell (c:=1) hr (by rw [hTr];rfl) rfl
  have y2:w.cell? ⟨g,l2*4+2,none⟩=some (.int .u64 (qr:Int)):=h.row.cell (c:=2) hr (by rw [hTr];rfl) rfl
  have y3:w.cell? ⟨g,l2*4+3,none⟩=some (.int .i64 dr):=h.row.cell (c:=3) hr (by rw [hTr];rfl) rfl
  rw [hTl] at okl;rw [hTr] at okr;have HTL:=Lib.hid hTl;have HTR:=Lib.hid hTr;have hdr:decide ((l2:Int)<(n:Int))=true:=by simp;omega
  have hcall:=L.call w.drew m ((pr,qr,dr)) ((pl,ql,dl)) h.c0 (L.keep w w.drew m (fun _=>False) hC ((Only.refl w _).drewN 1) (fun _ _ q=>q)) hm okr okl;clear hTl hTr
  go_enter Tryz.func202,Tryz.ntmps202
  go_wp2
  go_still_tail 25,(by kernel_rfl)
  change wpList _ _ _ _ _ w.drew;have hd:Only w w.drew S:=(Only.refl w _).drewN 1;clear x1 y1 c1;clear x2 x3 y2 y3;generalize w.drew=wd at hcall hd ⊢
  cases hlt:lt (pr,qr,dr) (pl,ql,dl) with
  | true =>
   rw [hlt] at hcall;have HLT:=Lib.hid hlt;clear hlt;go_wp2_with fail
   refine hcall.mono ?_;rintro e w' ⟨rfl,hC',ho'⟩;clear hcall;go_wp2_with fail
   go_ret
   refine ⟨l2,1,rfl,?_,hr,?_,?_,Nat.le_refl _,hC',hd.tr ho'⟩
   ·have:=HL2.out;omega
   ·rw [HL2.out];exact par_right i
   ·intro j h0 hj hpj
    rcases par_cases h0 hpj with q | q
    ·rw [←HL.out] at q;subst q
     rw [HTL.out,HTR.out];exact odr.asym _ _ okr okl HLT.out
    ·rw [←HL2.out] at q;subst q
     rw [HTR.out];exact odr.irr _ okr
  | false =>
   rw [hlt] at hcall;have HLT:=Lib.hid hlt;clear hlt;go_wp2_with fail
   refine hcall.mono ?_;rintro e w' ⟨rfl,hC',ho'⟩;clear hcall;go_wp2_with fail
   go_ret
   refine ⟨l,1,rfl,?_,hl0,?_,?_,Nat.le_refl _,hC',hd.tr ho'⟩
   ·have:=HL.out;omega
   ·rw [HL.out];exact par_left i
   ·intro j h0 hj hpj
    rcases par_cases h0 hpj with q | q
    ·rw [←HL.out] at q;subst q
     rw [HTL.out];exact odr.irr _ okl
    ·rw [←HL2.out] at q;subst q
     rw [HTL.out,HTR.out];exact HLT.out
 ·have hdr:decide ((l2:Int)<(n:Int))=false:=by simp;omega
  have hl0:l<n:=by have:=HL.out;omega
  go_enter Tryz.func202,Tryz.ntmps202
  go_wp2
  go_quiet (fail)
  go_wp2
  go_ret
  refine ⟨l,0,rfl,?_,hl0,?_,?_,by omega,L.keep w (w.drewN _) m (fun _=>False) hC ((Only.refl w _).drewN _) (fun _ _ q=>q),(Only.refl w _).drewN _⟩
  ·have:=HL.out;omega
  ·rw [HL.out];exact par_left i
  ·intro j h0 hj hpj
   rcases par_cases h0 hpj with q | q
   ·rw [←HL.out] at q;subst q
    exact odr.irr _ okl
   ·rw [←HL2.out] at q;omega
def dom (g b:Nat) (S:Nat→Prop):Nat→Prop:=fun j=>j=g∨j=b∨S j
theorem two_pow_step {a x y:Nat} (h:2 ^ a*(x+1)≤y) (hx:0<x):2 ^ (a+1)*(par x+1)≤y:=by
 have h1:2*(par x+1)≤x+1:=by unfold par;omega
 have h2:=Nat.mul_le_mul_left (2 ^ a) h1;rw [Nat.pow_succ,Nat.mul_assoc];omega
theorem two_pow_le {a x y:Nat} (h:2 ^ a*(x+1)≤y):2 ^ a≤y:=Nat.le_trans (Nat.le_mul_of_pos_right _ (by omega)) h
theorem rise_any {r:Nat} {Fv:Value} {S:Nat→Prop} {C:Nat→World→Prop} (L:Less r Fv S C) (g cap b n:Nat) (T:Nat→Int×V) (M:Int→Option Nat) (c:Nat) (i:Nat) (k0:Int) (A:Int→Option V) (p q:Nat) (d:Int) (w:World)
  (h:St w r Fv g cap b n T M c) (ho:Hole lt ok n T i) (hp:Pl n T i k0 M A) (hv:ok (p,q,d)) (hn:n<1073741824) (hc:c<maxLen) (m:Nat) (hm:m<2305843009213693952) (hC:C m w) (hS:∀ j,S j→j≠r∧j≠g∧j≠b) (hSw:∀ j,S j→j<w.heap.size) :
  Calls Tryz.prog 192 #[.pointer (some ⟨r,0,none⟩),.int .i64 (i:Int),(.agg #[.int .u64 (p:Int),.int .u64 (q:Int),.int .i64 d])] w fun e w'=>∃ (T':Nat→Int×V) (M':Int→Option Nat) (i' a:Nat),e=.returned (.int .i64 (i':Int))∧St w' r Fv g cap b n T' M' c∧Hole lt ok n T' i'∧Pl n T' i' k0 M' A∧M' k0=M k0 ∧
   (0<i'→lt (p,q,d) (T' (par i')).2=false)∧a≤30∧C (m+a) w'∧Only w w' (dom g b S):=by
 have hSr:¬ S r:=fun q=>(hS r q).1 rfl;have hSg:¬ S g:=fun q=>(hS g q).2.1 rfl;have hSb:¬ S b:=fun q=>(hS b q).2.2 rfl;have hin:=ho.lt_n
 have hnH:¬ dom g b S w.heap.size:=by
  have hg1:=h.row.lt;have hb1:=h.mp.lt;rintro (q | q | q)
  ·omega
  ·omega
  ·have:=hSw _ q;omega
 go_enter Tryz.func192,Tryz.ntmps192
 go_wp2
 go_loopg [1] i (fun gk vi wr=>∃ (T':Nat→Int×V) (M':Int→Option Nat) (a:Nat),vi=.int .i64 (gk:Int)∧St wr r Fv g cap b n T' M' c∧Hole lt ok n T' gk∧Pl n T' gk k0 M' A∧Hid (M' k0=M k0)∧C (m+a) wr∧Hid (2 ^ a*(gk+1)≤i+1)∧Only w wr (dom g b S)∧Hid (wr.heap[w.heap.size]?=some (.cells #[.int .u64 (p:Int),.int .u64 (q:Int),.int .i64 d] 242)))
 case atStart=>exact ⟨T,M,0,rfl,h.kept (Only.alloc (Only.refl w (fun _=>False)) _) (fun q=>q) (fun q=>q) (fun q=>q),ho,hp,Lib.hid rfl,L.keep w _ m (fun _=>False) hC (Only.alloc (Only.refl w (fun _=>False)) _) (fun _ _ q=>q),Lib.hid (by omega),(Only.refl w _).alloc _,Lib.hid (heap_alloc_new w _)⟩
 case round =>
  obtain ⟨T',M',a,rfl,h',ho',hp',HM,hC',HA,hO,HB⟩:=hrel;have hgn:=ho'.lt_n
  rcases Nat.eq_zero_or_pos gk with hz | hz
  ·subst hz
   go_wp2_with fail
   go_ret
   exact ⟨T',M',0,a,rfl,h',ho',hp',HM.out,fun q=>absurd q (by omega),by have:=pow_le30 (two_pow_le HA.out) (by omega);omega,hC',hO⟩
  ·obtain ⟨u,hu⟩:∃ u,u=par gk:=⟨_,rfl⟩
   have hug:u<gk:=by rw [hu];exact par_lt hz
   have hun:u<n:=by omega
   have hzi:(0:Int)<(gk:Int):=by omega
   have hq:Int.tdiv ((gk:Int)-1) 2=(u:Int):=by rw [hu,Int.tdiv_eq_ediv_of_nonneg (by omega)];unfold par;omega
   have huni:(u:Int)<(n:Int):=by omega
   have hgi:(gk:Int)<1073741824:=by omega
   have hoku:=ho'.okV u hun (by omega)
   obtain ⟨⟨ku,pu,qu,du⟩,hTu⟩:∃ x,T' u=x:=⟨_,rfl⟩;rw [hTu] at hoku;have c1:=h'.c1;have x1:wr.cell? ⟨g,u*4+1,none⟩=some (.int .u64 (pu:Int)):=h'.row.cell (c:=1) hun (by rw [hTu];rfl) rfl
   have x2:wr.cell? ⟨g,u*4+2,none⟩=some (.int .u64 (qu:Int)):=h'.row.cell (c:=2) hun (by rw [hTu];rfl) rfl
   have x3:wr.cell? ⟨g,u*4+3,none⟩=some (.int .i64 du):=h'.row.cell (c:=3) hun (by rw [hTu];rfl) rfl
   have hkey:=h'.keys u hun;rw [hTu] at hkey;have ha30:a<30:=pow_le30 (two_pow_le HA.out) (by omega)
   have hcall:=L.call wr.drew (m+a) (p,q,d) (pu,qu,du) h'.c0 (L.keep wr wr.drew (m+a) (fun _=>False) hC' ((Only.refl wr _).drewN 1) (fun _ _ q=>q)) (by omega) hv hoku
   have z0:=cell_of_row _ _ 0 _ _ _ HB.out;have z1:=cell_of_row _ _ 1 _ _ _ HB.out;have z2:=cell_of_row _ _ 2 _ _ _ HB.out;have HU:=Lib.hid hu;have HTU:=Lib.hid hTu;have ha1:a+1<30:=pow_le30 (two_pow_le (two_pow_step HA.out hz)) (by omega)
   clear hu hTu
   cases hlt:lt (p,q,d) (pu,qu,du) with
   | false =>
    rw [hlt] at hcall;have HLT:=Lib.hid hlt;clear hlt;go_wp2_with fail
    go_still_tail 10,(by kernel_rfl)
    change wpList _ _ _ _ _ wr.drew;have hwd:Only wr wr.drew S:=(Only.refl wr _).drewN 1;clear z0 z1 z2;generalize wr.drew=wd at hcall hwd ⊢;go_wp2_with fail
    refine hcall.mono ?_;rintro e w1 ⟨rfl,hC1,ho1⟩;have ho1:=hwd.tr ho1;have HB1:=ho1.blk (fun q=>hnH (Or.inr (Or.inr q))) HB.out;clear hcall;have h1:=h'.kept ho1 hSr hSg hSb;clear c1 x1;clear x2 x3;go_wp2_with fail
    go_ret
    refine ⟨T',M',gk,a+1,rfl,h1,ho',hp',HM.out,fun _=>?_,by omega,hC1,hO.trans ho1 (fun j q=>Or.inl (Or.inr (Or.inr q)))⟩
    rw [←HU.out,HTU.out];exact HLT.out
   | true =>
    rw [hlt] at hcall;have HLT:=Lib.hid hlt;clear hlt;go_wp2_with fail
    go_still_tail 10,(by kernel_rfl)
    change wpList _ _ _ _ _ wr.drew;have hwd:Only wr wr.drew S:=(Only.refl wr _).drewN 1;clear z0 z1 z2;generalize wr.drew=wd at hcall hwd ⊢;go_wp2_with fail
    refine hcall.mono ?_;rintro e w1 ⟨rfl,hC1,ho1⟩;have ho1:=hwd.tr ho1;have HB1:=ho1.blk (fun q=>hnH (Or.inr (Or.inr q))) HB.out;clear hcall;have h1:=h'.kept ho1 hSr hSg hSb;have hO1:=hO.trans ho1 (fun j q=>Or.inl (Or.inr (Or.inr q)));clear c1 x1;clear x2 x3;have c1:=h1.c1;have x0:w1.cell? ⟨g,u*4,none⟩=some (.int .i64 ku):=h1.row.cell (c:=0) hun (by rw [HTU.out];rfl) rfl
    have x1:w1.cell? ⟨g,u*4+1,none⟩=some (.int .u64 (pu:Int)):=h1.row.cell (c:=1) hun (by rw [HTU.out];rfl) rfl
    have x2:w1.cell? ⟨g,u*4+2,none⟩=some (.int .u64 (qu:Int)):=h1.row.cell (c:=2) hun (by rw [HTU.out];rfl) rfl
    have x3:w1.cell? ⟨g,u*4+3,none⟩=some (.int .i64 du):=h1.row.cell (c:=3) hun (by rw [HTU.out];rfl) rfl
    have hMk:M' ku=some u:=(hp'.at_ ku (by have:=hp'.nk u hun (by omega);rw [HTU.out] at this;exact this) u).2 ⟨hun,by omega,by rw [HTU.out]⟩
    have hku:ku≠k0:=by have:=hp'.nk u hun (by omega);rw [HTU.out] at this;exact this
    have hput:=put_any r Fv g cap b n T' M' c gk ku pu qu du w1 h1 hgn hkey hc c (by rw [hMk];rfl)
    have HMK:=Lib.hid hMk;clear hMk;go_wp2_with fail
    refine hput.mono ?_;rintro e w2 ⟨rfl,h2,ho2⟩;clear hput c1 x0 x1;clear x2 x3;have hC2:=L.keep w1 w2 _ _ hC1 ho2 (fun j q q'=>by rcases q' with q' | q';exact (hS j q).2.1 q';exact (hS j q).2.2 q')
    have HB2:=ho2.blk (fun q=>hnH (q.elim Or.inl (fun q=>Or.inr (Or.inl q)))) HB1;have hO2:=hO1.trans ho2 (fun j q=>Or.inl (q.elim (fun q=>Or.inl q) (fun q=>Or.inr (Or.inl q))));have hH2:=ho'.up odr hz;have hP2:=hp'.move hgn hun (by omega)
    rw [←HU.out] at hH2;rw [HTU.out] at hH2 hP2;go_wp2_with fail
    go_roundg u
    case measure=>exact hug
    case rel =>
     refine ⟨_,_,a+1,by go_num,h2,hH2,hP2,Lib.hid ?_,hC2,Lib.hid ?_,hO2,Lib.hid HB2⟩
     ·rw [updZ_ne _ _ (fun q=>hku q.symm)];exact HM.out
     ·rw [HU.out];exact two_pow_step HA.out hz
theorem sink_any {r:Nat} {Fv:Value} {S:Nat→Prop} {C:Nat→World→Prop} (L:Less r Fv S C) (g cap b n:Nat) (T:Nat→Int×V) (M:Int→Option Nat) (c:Nat) (i:Nat) (k0:Int) (A:Int→Option V) (p q:Nat) (d:Int) (w:World)
  (h:St w r Fv g cap b n T M c) (ho:Hole lt ok n T i) (hp:Pl n T i k0 M A) (hup:0<i→lt (p,q,d) (T (par i)).2=false) (hv:ok (p,q,d)) (hn:n<1073741824) (hc:c<maxLen) (m:Nat) (hm:m<2305843009213694000) (hC:C m w) (hS:∀ j,S j→j≠r∧j≠g∧j≠b) (hSw:∀ j,S j→j<w.heap.size) :
  Calls Tryz.prog 193 #[.pointer (some ⟨r,0,none⟩),.int .i64 (i:Int),(.agg #[.int .u64 (p:Int),.int .u64 (q:Int),.int .i64 d])] w fun e w'=>∃ (T':Nat→Int×V) (M':Int→Option Nat) (i' a:Nat),e=.returned (.int .i64 (i':Int))∧St w' r Fv g cap b n T' M' c∧Hole lt ok n T' i'∧Pl n T' i' k0 M' A∧M' k0=M k0 ∧
   (0<i'→lt (p,q,d) (T' (par i')).2=false)∧(∀ j,0<j→j<n→par j=i'→lt (T' j).2 (p,q,d)=false)∧a≤60∧C (m+a) w'∧Only w w' (dom g b S):=by
 have hSr:¬ S r:=fun q=>(hS r q).1 rfl;have hSg:¬ S g:=fun q=>(hS g q).2.1 rfl;have hSb:¬ S b:=fun q=>(hS b q).2.2 rfl;have hin:=ho.lt_n
 have hnH:¬ dom g b S w.heap.size:=by
  have hg1:=h.row.lt;have hb1:=h.mp.lt;rintro (q | q | q)
  ·omega
  ·omega
  ·have:=hSw _ q;omega
 go_enter Tryz.func193,Tryz.ntmps193
 go_wp2
 go_loopg [1] (n-i) (fun gk vi wr=>∃ (T':Nat→Int×V) (M':Int→Option Nat) (i' t a:Nat),vi=.int .i64 (i':Int)∧i'+gk=n∧St wr r Fv g cap b n T' M' c∧Hole lt ok n T' i'∧Pl n T' i' k0 M' A∧Hid (M' k0=M k0)∧Hid (0<i'→lt (p,q,d) (T' (par i')).2=false)∧C (m+a) wr∧a≤2*t∧Hid (2 ^ t≤i'+1)∧Only w wr (dom g b S)∧Hid (wr.heap[w.heap.size]?=some (.cells #[.int .u64 (p:Int),.int .u64 (q:Int),.int .i64 d] 242)))
 case atStart=>exact ⟨T,M,i,0,0,rfl,by omega,h.kept (Only.alloc (Only.refl w (fun _=>False)) _) (fun q=>q) (fun q=>q) (fun q=>q),ho,hp,Lib.hid rfl,Lib.hid hup,L.keep w _ m (fun _=>False) hC (Only.alloc (Only.refl w (fun _=>False)) _) (fun _ _ q=>q),by omega,Lib.hid (by omega),(Only.refl w _).alloc _,Lib.hid (heap_alloc_new w _)⟩
 case round =>
  obtain ⟨T',M',i',t,a,rfl,hgk,h',ho',hp',HM,HUP,hC',ha,HT,hO,HB⟩:=hrel;have hgn:=ho'.lt_n;have HGK:=Lib.hid hgk;clear hgk;have ht30:t<30:=pow_le30 HT.out (by omega)
  have hii:(i':Int)<1073741824:=by omega
  have c1:=h'.c1
  by_cases hlt0:2*i'+1<n
  ·have hdi:decide (2*(i':Int)+1<(n:Int))=true:=by simp;omega
   have ht31:t+1<30:=pow_le30 (m:=n) (by rw [Nat.pow_succ];have:=HT.out;omega) (by omega)
   have hchild:=child_any L g cap b n T' M' c i' wr h' ho' hlt0 hn (m+a) (by omega) hC'
   go_wp2_with fail
   refine hchild.mono ?_;rintro e w0 ⟨ch,a1,rfl,hch0,hchn,hpar,hmin,ha1,hC0,ho0⟩;clear hchild c1;have h0:=h'.kept ho0 hSr hSg hSb;have hO0:=hO.trans ho0 (fun j q=>Or.inl (Or.inr (Or.inr q)));have hci:ch≠i':=by have:=par_lt hch0;omega
   have hokc:=ho'.okV ch hchn hci;obtain ⟨⟨ku,pu,qu,du⟩,hTu⟩:∃ x,T' ch=x:=⟨_,rfl⟩;rw [hTu] at hokc hmin;have hchi:(ch:Int)<(n:Int):=by omega
   have hkey:=h0.keys ch hchn;rw [hTu] at hkey;have c1:=h0.c1;have x1:w0.cell? ⟨g,ch*4+1,none⟩=some (.int .u64 (pu:Int)):=h0.row.cell (c:=1) hchn (by rw [hTu];rfl) rfl
   have x2:w0.cell? ⟨g,ch*4+2,none⟩=some (.int .u64 (qu:Int)):=h0.row.cell (c:=2) hchn (by rw [hTu];rfl) rfl
   have x3:w0.cell? ⟨g,ch*4+3,none⟩=some (.int .i64 du):=h0.row.cell (c:=3) hchn (by rw [hTu];rfl) rfl
   have hcall:=L.call w0.drew (m+a+a1) (pu,qu,du) (p,q,d) h0.c0 (L.keep w0 w0.drew (m+a+a1) (fun _=>False) hC0 ((Only.refl w0 _).drewN 1) (fun _ _ q=>q)) (by omega) hokc hv
   have HB0:=ho0.blk (fun q=>hnH (Or.inr (Or.inr q))) HB.out;have z0:=cell_of_row _ _ 0 _ _ _ HB0;have z1:=cell_of_row _ _ 1 _ _ _ HB0;have z2:=cell_of_row _ _ 2 _ _ _ HB0;have HTU:=Lib.hid hTu;have HPAR:=Lib.hid hpar;clear hTu hpar
   cases hlt:lt (pu,qu,du) (p,q,d) with
   | false =>
    rw [hlt] at hcall;have HLT:=Lib.hid hlt;clear hlt;go_wp2_with fail
    go_still_tail 10,(by kernel_rfl)
    change wpList _ _ _ _ _ w0.drew;have hwd:Only w0 w0.drew S:=(Only.refl w0 _).drewN 1;clear z0 z1 z2;generalize w0.drew=wd at hcall hwd ⊢;go_wp2_with fail
    refine hcall.mono ?_;rintro e w1 ⟨rfl,hC1,ho1⟩;have ho1:=hwd.tr ho1;have HB1:=ho1.blk (fun q=>hnH (Or.inr (Or.inr q))) HB0;clear hcall c1 x1;clear x2 x3;have h1:=h0.kept ho1 hSr hSg hSb;have hC2:C (m+(a+a1+1)) w1:=by rw [←Nat.add_assoc,←Nat.add_assoc];exact hC1
    go_wp2_with fail
    go_ret
    refine ⟨T',M',i',a+a1+1,rfl,h1,ho',hp',HM.out,HUP.out,?_,by omega,hC2,hO0.trans ho1 (fun j q=>Or.inl (Or.inr (Or.inr q)))⟩
    intro j hj0 hjn hjp;exact odr.ntr _ _ _ (ho'.okV j hjn (by have:=par_lt hj0;omega)) hokc hv (hmin j hj0 hjn hjp) HLT.out
   | true =>
    rw [hlt] at hcall;have HLT:=Lib.hid hlt;clear hlt;go_wp2_with fail
    go_still_tail 10,(by kernel_rfl)
    change wpList _ _ _ _ _ w0.drew;have hwd:Only w0 w0.drew S:=(Only.refl w0 _).drewN 1;clear z0 z1 z2;generalize w0.drew=wd at hcall hwd ⊢;go_wp2_with fail
    refine hcall.mono ?_;rintro e w1 ⟨rfl,hC1,ho1⟩;have ho1:=hwd.tr ho1;have HB1:=ho1.blk (fun q=>hnH (Or.inr (Or.inr q))) HB0;clear hcall c1 x1;clear x2 x3;have h1:=h0.kept ho1 hSr hSg hSb;have hO1:=hO0.trans ho1 (fun j q=>Or.inl (Or.inr (Or.inr q)));have c1:=h1.c1;have x0:w1.cell? ⟨g,ch*4,none⟩=some (.int .i64 ku):=h1.row.cell (c:=0) hchn (by rw [HTU.out];rfl) rfl
    have x1:w1.cell? ⟨g,ch*4+1,none⟩=some (.int .u64 (pu:Int)):=h1.row.cell (c:=1) hchn (by rw [HTU.out];rfl) rfl
    have x2:w1.cell? ⟨g,ch*4+2,none⟩=some (.int .u64 (qu:Int)):=h1.row.cell (c:=2) hchn (by rw [HTU.out];rfl) rfl
    have x3:w1.cell? ⟨g,ch*4+3,none⟩=some (.int .i64 du):=h1.row.cell (c:=3) hchn (by rw [HTU.out];rfl) rfl
    have hku:ku≠k0:=by have:=hp'.nk ch hchn hci;rw [HTU.out] at this;exact this
    have hMk:M' ku=some ch:=(hp'.at_ ku hku ch).2 ⟨hchn,hci,by rw [HTU.out]⟩
    have hput:=put_any r Fv g cap b n T' M' c i' ku pu qu du w1 h1 hgn hkey hc c (by rw [hMk];rfl)
    have HMK:=Lib.hid hMk;clear hMk;go_wp2_with fail
    refine hput.mono ?_;rintro e w2 ⟨rfl,h2,ho2⟩;clear hput c1 x0 x1;clear x2 x3;have hC2:=L.keep w1 w2 _ _ hC1 ho2 (fun j q q'=>by rcases q' with q' | q';exact (hS j q).2.1 q';exact (hS j q).2.2 q')
    have hC3:C (m+(a+a1+1)) w2:=by rw [←Nat.add_assoc,←Nat.add_assoc];exact hC2
    have HB2:=ho2.blk (fun q=>hnH (q.elim Or.inl (fun q=>Or.inr (Or.inl q)))) HB1;have hO2:=hO1.trans ho2 (fun j q=>Or.inl (q.elim (fun q=>Or.inl q) (fun q=>Or.inr (Or.inl q))));have hH2:=ho'.down hch0 hchn HPAR.out (by rw [HTU.out];exact hmin)
    have hP2:=hp'.move hgn hchn hci;rw [HTU.out] at hH2 hP2;have hcase:=par_cases hch0 HPAR.out;go_wp2_with fail
    go_roundg (n-ch)
    case measure=>have:=HGK.out;omega
    case rel =>
     refine ⟨_,_,ch,t+1,a+a1+1,by go_num,by omega,h2,hH2,hP2,Lib.hid ?_,Lib.hid ?_,hC3,by omega,Lib.hid ?_,hO2,Lib.hid HB2⟩
     ·rw [updZ_ne _ _ (fun q=>hku q.symm)];exact HM.out
     ·intro _
      rw [HPAR.out,upd_same];exact odr.asym _ _ hokc hv HLT.out
     ·have:=HT.out;rw [Nat.pow_succ];omega
  ·have hdi:decide (2*(i':Int)+1<(n:Int))=false:=by simp;omega
   go_wp2_with fail
   go_ret
   refine ⟨T',M',i',a,rfl,h',ho',hp',HM.out,HUP.out,?_,by omega,hC',hO⟩
   intro j hj0 hjn hjp
   rcases par_cases hj0 hjp with q | q <;> omega
theorem settle_any {r:Nat} {Fv:Value} {S:Nat→Prop} {C:Nat→World→Prop} (L:Less r Fv S C) (g cap b n:Nat) (T:Nat→Int×V) (M:Int→Option Nat) (c:Nat) (i:Nat) (k:Int) (A:Int→Option V) (p q:Nat) (d:Int) (w:World)
  (h:St w r Fv g cap b n T M c) (ho:Hole lt ok n T i) (hp:Pl n T i k M A) (hv:ok (p,q,d)) (hk:(KL k).wf=true) (hn:n<1073741824) (hc:c<maxLen) (m:Nat) (hm:m<2305843009213693952) (hC:C m w) (hS:∀ j,S j→j≠r∧j≠g∧j≠b) (hSw:∀ j,S j→j<w.heap.size)
  (c':Nat) (hc':c'=if (M k).isSome then c else c+1) :
  Calls Tryz.prog 181 #[.pointer (some ⟨r,0,none⟩),.int .i64 (i:Int),.agg #[.int .i64 k,.int .u64 (p:Int),.int .u64 (q:Int),.int .i64 d]] w fun e w'=>e=.returned (.tuple #[])∧∃ (T':Nat→Int×V) (M':Int→Option Nat) (a:Nat),St w' r Fv g cap b n T' M' c'∧Full lt ok n T' M' (updZ A k (some (p,q,d)))∧a≤90∧C (m+a) w'∧Only w w' (dom g b S):=by
 have HC:=Lib.hid hc';clear hc';have hr1:=lt_of_row h.blk;have hg1:=h.row.lt;have hb1:=h.mp.lt;have hOw:Only w (w.alloc (.cells #[.int .i64 k,.int .u64 (p:Int),.int .u64 (q:Int),.int .i64 d] 259)) (dom g b S):=(Only.refl w _).alloc _;have h1:=h.kept (Only.alloc (Only.refl w (fun _=>False)) (.cells #[.int .i64 k,.int .u64 (p:Int),.int .u64 (q:Int),.int .i64 d] 259)) (fun q=>q) (fun q=>q) (fun q=>q);have hC1:=L.keep w _ m (fun _=>False) hC (Only.alloc (Only.refl w (fun _=>False)) (.cells #[.int .i64 k,.int .u64 (p:Int),.int .u64 (q:Int),.int .i64 d] 259)) (fun _ _ q=>q);have hH:(w.alloc (.cells #[.int .i64 k,.int .u64 (p:Int),.int .u64 (q:Int),.int .i64 d] 259)).heap[w.heap.size]?=some (.cells #[.int .i64 k,.int .u64 (p:Int),.int .u64 (q:Int),.int .i64 d] 259):=heap_alloc_new w _
 have hnH:¬ dom g b S w.heap.size:=by
  rintro (q | q | q)
  ·omega
  ·omega
  ·have:=hSw _ q;omega
 go_enter Tryz.func181,Tryz.ntmps181
 have hSw1:∀ j,S j→j<(w.alloc (.cells #[.int .i64 k,.int .u64 (p:Int),.int .u64 (q:Int),.int .i64 d] 259)).heap.size:=fun j q=>Nat.lt_of_lt_of_le (hSw j q) hOw.size;have hrise:=rise_any L g cap b n T M c i k A p q d _ h1 ho hp hv hn hc m hm hC1 hS hSw1;go_wp2_with fail
 refine hrise.mono ?_;rintro e w2 ⟨T2,M2,i2,a2,rfl,h2,ho2,hp2,hM2,hup2,ha2,hC2,hO2⟩;have hH2:=hO2.blk hnH hH;have hOw2:=hOw.tr hO2;have HM2:=Lib.hid hM2;clear hrise hM2;have e1:=cell_of_row _ _ 1 _ _ _ hH2;have e2:=cell_of_row _ _ 2 _ _ _ hH2;have e3:=cell_of_row _ _ 3 _ _ _ hH2;have hsink:=sink_any L g cap b n T2 M2 c i2 k A p q d w2 h2 ho2 hp2 hup2 hv hn hc (m+a2) (by omega) hC2 hS (fun j q=>Nat.lt_of_lt_of_le (hSw j q) hOw2.size)
 go_wp2_with fail
 refine hsink.mono ?_;rintro e w3 ⟨T3,M3,i3,a3,rfl,h3,ho3,hp3,hM3,hup3,hdn3,ha3,hC3,hO3⟩;have hH3:=hO3.blk hnH hH2;have hOw3:=hOw2.tr hO3;have HM3:=Lib.hid hM3;clear hsink e1 hM3;clear e2 e3;have e0:=cell_of_row _ _ 0 _ _ _ hH3;have e1:=cell_of_row _ _ 1 _ _ _ hH3;have e2:=cell_of_row _ _ 2 _ _ _ hH3;have e3:=cell_of_row _ _ 3 _ _ _ hH3;have hput:=put_any r Fv g cap b n T3 M3 c i3 k p q d w3 h3 ho3.lt_n hk hc c' (by rw [HC.out,HM3.out,HM2.out])
 go_wp2_with fail
 refine hput.mono ?_;rintro e w4 ⟨rfl,h4,ho4⟩;clear hput e0 e1;clear e2 e3;go_wp2_with fail
 go_end0
 refine ⟨rfl,_,_,a2+a3,h4,ho3.fill hp3 hv hup3 hdn3,by omega,?_,hOw3.trans ho4 (fun j q=>Or.inl (q.elim (fun q=>Or.inl q) (fun q=>Or.inr (Or.inl q))))⟩
 rw [←Nat.add_assoc];exact L.keep w3 w4 _ _ hC3 ho4 (fun j q q'=>by rcases q' with q' | q';exact (hS j q).2.1 q';exact (hS j q).2.2 q')
def MpO (w:World) (B:Option Nat) (M:Int→Option Nat) (n:Nat):Prop :=
 (B=none∧n=0∧∀ k,M k=none)∨∃ b,B=some b∧Mp Tryz.prog 3 w b (fun k=>(M k).map (fun j:Nat=>Value.int .i64 (j:Int))) n
theorem MpO.kept {w w':World} {B:Option Nat} {M:Int→Option Nat} {n:Nat} {S:Nat→Prop} (h:MpO w B M n) (ho:Only w w' S) (hb:∀ b,B=some b→¬ S b):MpO w' B M n:=by
 rcases h with h | ⟨b,h1,h2⟩
 ·exact Or.inl h
 ·exact Or.inr ⟨b,h1,h2.kept ho (hb b h1)⟩
structure Hp (w:World) (r:Nat) (Fv:Value) (G B:Option Nat) (n:Nat) (A:Int→Option V) (sv:Value) (T:Nat→Int×V) (M:Int→Option Nat):Prop where
 blk:w.heap[r]?=some (.cells #[Fv,sv,.map B] 257 (0,0))
 its:Its ic 4 259 w sv G n T
 mp:MpO w B M n
 full:Full lt ok n T M A
 keys:∀ j,j<n→(KL (T j).1).wf=true
 rg:∀ g,G=some g→r≠g
 rb:∀ b,B=some b→r≠b
 gb:∀ g b,G=some g→B=some b→g≠b
def Ob (w:World) (r:Nat) (Fv:Value) (n:Nat) (A:Int→Option V) (X:Nat→Prop):Prop :=
 ∃ G B sv T M,Hp w r Fv G B n A sv T M∧X r∧(∀ g,G=some g→X g)∧(∀ b,B=some b→X b)∧∀ j,X j→j<w.heap.size
theorem Ob.kept {w w':World} {r:Nat} {Fv:Value} {n:Nat} {A:Int→Option V} {X S:Nat→Prop} (h:Ob w r Fv n A X) (ho:Only w w' S) (hd:∀ j,X j→¬ S j):Ob w' r Fv n A X:=by
 obtain ⟨G,B,sv,T,M,h,h1,h2,h3,h4⟩:=h;exact ⟨G,B,sv,T,M,⟨ho.blk (hd r h1) h.blk,h.its.kept ho (fun g hg=>hd g (h2 g hg)),h.mp.kept ho (fun b hb=>hd b (h3 b hb)),h.full,h.keys,h.rg,h.rb,h.gb⟩,h1,h2,h3,fun j hj=>Nat.lt_of_lt_of_le (h4 j hj) ho.size⟩
theorem Ob.lt {w:World} {r:Nat} {Fv:Value} {n:Nat} {A:Int→Option V} {X:Nat→Prop} (h:Ob w r Fv n A X):∀ j,X j→j<w.heap.size:=by
 obtain ⟨G,B,sv,T,M,h,h1,h2,h3,h4⟩:=h;exact h4
theorem Ob.okV {w:World} {r:Nat} {Fv:Value} {n:Nat} {A:Int→Option V} {X:Nat→Prop} (h:Ob w r Fv n A X) {k:Int} {v:V} (hk:A k=some v):ok v∧(KL k).wf=true:=by
 obtain ⟨G,B,sv,T,M,h,_⟩:=h;obtain ⟨j,h1,h2⟩:=(h.full.con _ _).1 hk;have a:=h.full.okV j h1;have b:=h.keys j h1;rw [h2] at a b;exact ⟨a,b⟩
theorem Ob.zero {w:World} {r:Nat} {Fv:Value} {A:Int→Option V} {X:Nat→Prop} (h:Ob w r Fv 0 A X) (k:Int):A k=none:=by
 obtain ⟨G,B,sv,T,M,h,_⟩:=h;exact h.full.zero k
theorem Ob.some_ {w:World} {r:Nat} {Fv:Value} {n:Nat} {A:Int→Option V} {X:Nat→Prop} (h:Ob w r Fv n A X) (hn:0<n):∃ k v,A k=some v:=by
 obtain ⟨G,B,sv,T,M,h,_⟩:=h;exact ⟨_,_,(h.full.mn odr hn).1⟩
theorem Ob.pos {w:World} {r:Nat} {Fv:Value} {n:Nat} {A:Int→Option V} {X:Nat→Prop} (h:Ob w r Fv n A X) {k:Int} {v:V} (hk:A k=some v):0<n:=by
 obtain ⟨G,B,sv,T,M,h,_⟩:=h;obtain ⟨j,h1,_⟩:=(h.full.con _ _).1 hk;omega
theorem new_any (fn:Fn) (fi ca:Array Value) (w:World) :
  Calls Tryz.prog 179 #[.func fn fi ca] w fun e w'=>e=.returned (.pointer (some ⟨w.heap.size,0,none⟩))∧Ob w' w.heap.size (.func fn fi ca) 0 (fun _=>none) (fun j=>j=w.heap.size)∧Below w.heap.size w w':=by
 go_enter Tryz.func179,Tryz.ntmps179
 go_wp2
 go_ret
 refine ⟨rfl,⟨none,none,.slice none 0 0,fun _=>(0,(0,0,0)),fun _=>none,⟨heap_alloc_new w _,Or.inl ⟨rfl,rfl,rfl⟩,Or.inl ⟨rfl,rfl,fun _=>rfl⟩,Full.empty _,fun j hj=>absurd hj (by omega),(fun _ q=>nomatch q),(fun _ q=>nomatch q),(fun _ _ q=>nomatch q)⟩,rfl,(fun _ q=>nomatch q),(fun _ q=>nomatch q),fun j q=>?_⟩,(Below.refl _ _).alloc (Nat.le_refl _) _⟩
 rw [q];exact lt_of_row (heap_alloc_new w _)
theorem infoIt:(Tryz.prog.info? 259).map (fun i=>(i.zero,i.size,i.bytes))=some (some (.agg #[.int .i64 0,.int .u64 0,.int .u64 0,.int .i64 0]),4,32):=by kernel_rfl
theorem sizeMp:(Tryz.prog.info? 26).map (·.size)=some 1:=by kernel_rfl
theorem sizeSl:(Tryz.prog.info? 255).map (·.size)=some 1:=by kernel_rfl
theorem info3 {P:Program} {t:TypeId} {z:Value} {s b:Nat} (h:(P.info? t).map (fun i=>(i.zero,i.size,i.bytes))=some (some z,s,b)):∃ i,P.info? t=some i∧i.zero=some z∧i.size=s∧i.bytes=b:=by
 cases hq:P.info? t with
 | none=>simp [hq] at h
 | some i=>simp [hq] at h;exact ⟨i,rfl,h.1,h.2.1,h.2.2⟩
theorem settled_ob {w w':World} {r:Nat} {Fv:Value} {g cap b n:Nat} {T:Nat→Int×V} {M:Int→Option Nat} {A:Int→Option V} {X:Nat→Prop} (h:St w' r Fv g cap b n T M n) (f:Full lt ok n T M A) (hr:X r) (hX:∀ j,X j→j<w.heap.size) (hs:w.heap.size≤w'.heap.size)
  (hg:X g∨w.heap.size≤g) (hb:X b∨w.heap.size≤b):∃ X':Nat→Prop,Ob w' r Fv n A X'∧∀ j,X' j→X j∨w.heap.size≤j:=by
 refine ⟨fun j=>X j∨j=g∨j=b,⟨some g,some b,_,T,M,⟨h.blk,Or.inr ⟨g,cap,rfl,rfl,h.row⟩,Or.inr ⟨b,rfl,h.mp⟩,f,h.keys,fun g' q=>by cases q;exact h.rg,fun b' q=>by cases q;exact h.rb,fun g' b' q q'=>by cases q;cases q';exact h.gb⟩,Or.inl hr,fun g' q=>by cases q;exact Or.inr (Or.inl rfl),fun b' q=>by cases q;exact Or.inr (Or.inr rfl),?_⟩,?_⟩
 ·rintro j (q | q | q)
  ·exact Nat.lt_of_lt_of_le (hX j q) hs
  ·rw [q];exact h.row.lt
  ·rw [q];exact h.mp.lt
 ·rintro j (q | q | q)
  ·exact Or.inl q
  ·rw [q];exact hg
  ·rw [q];exact hb
theorem set_any {r:Nat} {Fv:Value} {S:Nat→Prop} {C:Nat→World→Prop} (L:Less r Fv S C) (n:Nat) (A:Int→Option V) (X:Nat→Prop) (k:Int) (p q:Nat) (d:Int) (w:World) (h:Ob w r Fv n A X) (hk:(KL k).wf=true) (hv:ok (p,q,d)) (hn:n<1073741823)
  (m:Nat) (hm:m<2305843009213693952) (hC:C m w) (hS:∀ j,S j→¬ X j) (hSw:∀ j,S j→j<w.heap.size) (n':Nat) (hn':n'=if (A k).isSome then n else n+1) :
  Calls Tryz.prog 190 #[.pointer (some ⟨r,0,none⟩),.int .i64 k,(.agg #[.int .u64 (p:Int),.int .u64 (q:Int),.int .i64 d])] w fun e w'=>e=.returned (.tuple #[])∧∃ (X':Nat→Prop) (a:Nat),Ob w' r Fv n' (updZ A k (some (p,q,d))) X'∧(∀ j,X' j→X j∨w.heap.size≤j)∧a≤90∧C (m+a) w'∧Only w w' (fun j=>X j∨S j):=by
 obtain ⟨G,B,sv,T,M,h,h1,h2,h3,h4⟩:=h;have hml:(1073741824:Nat)<maxLen:=by decide
 have hmk:∀ (w:World) (r:Option Nat),(binOp .eql 26 (.map r) (.map none)).run Tryz.prog w=.ok (.bool r.isNone) w:=fun w r=>run_eql_map_nil w _ _ _ r Tryz.underlying26;have hmm:=@run_makeMap Tryz.prog;obtain ⟨A1,cap1,hsl,hcap1,hcap2⟩:=h.its.slice;obtain ⟨iT,hi1,hi2,hi3,hi4⟩:=info3 infoIt;have HN':=Lib.hid hn';clear hn';have hrlt:=h4 r h1;have hkn:=updZ_twice A k none (some (p,q,d));have HKN:=Lib.hid hkn;clear hkn
 go_enter Tryz.func190,Tryz.ntmps190
 go_upto_region 1 with (fail)
 have hO0:Only w (w.alloc (.cells #[.int .u64 (p:Int),.int .u64 (q:Int),.int .i64 d] 242)) (fun _=>False):=(Only.refl w _).alloc _;have HBX:Hid ((w.alloc (.cells #[.int .u64 (p:Int),.int .u64 (q:Int),.int .i64 d] 242)).heap[w.heap.size]?=_):=Lib.hid (heap_alloc_new w _);generalize w.alloc (.cells #[.int .u64 (p:Int),.int .u64 (q:Int),.int .i64 d] 242)=w0 at hO0 HBX ⊢;have hOX:Only w w0 (fun j=>X j∨S j):=hO0.mono (fun _ q=>q.elim);have hC0:=L.keep w w0 m (fun _=>False) hC hO0 (fun _ _ q=>q);have hS0:∀ j,S j→j<w0.heap.size:=fun j q=>Nat.lt_of_lt_of_le (hSw j q) hO0.size;have HBLK:=Lib.hid (hO0.blk (fun q=>q) h.blk);have its0:=h.its.kept hO0 (fun _ _ q=>q);have mp0:=h.mp.kept hO0 (fun _ _ q=>q);have hfull:=h.full;have hkeys:=h.keys;have hrg:=h.rg;have hrb:=h.rb;have hgb:=h.gb;have hGlt:=h.its.lt;clear h
 cases hM:M k with
 | some i =>
  obtain ⟨hin,hA,hkey⟩:=hfull.get hM;obtain ⟨g,cap,hG,rfl,hrow⟩:=its0.some_ (by omega)
  obtain ⟨b,hB,hmp⟩:∃ b,B=some b∧Mp Tryz.prog 3 w0 b (fun k=>(M k).map (fun j:Nat=>Value.int .i64 (j:Int))) n:=by
   rcases mp0 with ⟨_,_,q⟩ | q
   ·rw [q k] at hM;cases hM
   ·exact q
  subst hB hG;have hst:St w0 r Fv g cap b n T M n:=⟨HBLK.out,hrow,hmp,hrg g rfl,hrb b rfl,hgb g b rfl rfl,hkeys⟩;obtain ⟨hho,hpl⟩:=hfull.free odr hM;have hSd:∀ j,S j→j≠r∧j≠g∧j≠b:=fun j q=>⟨fun e=>hS j q (by rw [e];exact h1),fun e=>hS j q (by rw [e];exact h2 g rfl),fun e=>hS j q (by rw [e];exact h3 b rfl)⟩
  have hnn:n'=n:=by rw [HN'.out,hA];rfl
  subst hnn;have hset:=settle_any L g cap b n' T M n' i k _ p q d w0 hst hho hpl hv hk (by omega) (by omega) m hm hC0 hSd hS0 n' (by rw [hM];rfl)
  rw [HKN.out] at hset;have HM:=Lib.hid hM;have c1:=hst.c1;have c2:=hst.c2;have z0:=cell_of_row _ _ 0 _ _ _ HBX.out;have z1:=cell_of_row _ _ 1 _ _ _ HBX.out;have z2:=cell_of_row _ _ 2 _ _ _ HBX.out;clear hM hA hsl;go_wp2_with (at_lookup;refine wpList_mp_some rfl (.tmp 21) (.tmp 22) 26 rfl 3 3 Tryz.underlying3 Tryz.underlying26 (zeroI _) b _ n' rfl hmp k rfl hk (.int .i64 (i:Int)) (by simp [HM.out]) ?_)
  refine hset.mono ?_;rintro e w' ⟨rfl,T',M',a,hst',hful',ha,hC',hO'⟩;clear hset;go_wp2_with fail
  go_end0
  have hO2:Only w w' (fun j=>X j∨S j):=hOX.tr (hO'.mono (fun j q=>by rcases q with q | q | q;exact Or.inl (by rw [q];exact h2 g rfl);exact Or.inl (by rw [q];exact h3 b rfl);exact Or.inr q))
  obtain ⟨X',hX1,hX2⟩:=settled_ob (w:=w) hst' hful' h1 h4 hO2.size (Or.inl (h2 g rfl)) (Or.inl (h3 b rfl));exact ⟨rfl,X',a,hX1,hX2,ha,hC',hO2⟩
 | none =>
  have hA:=hfull.isnone hM;have hnn:n'=n+1:=by rw [HN'.out,hA];rfl
  subst hnn;have HM:=Lib.hid hM
  have hAk:updZ A k none=A:=by
   funext j;unfold updZ;split
   ·rename_i e;rw [e,hA]
   ·rfl
  obtain ⟨hho,hpl⟩:=hfull.more (T':=upd T n (0,(0,0,0))) hM (fun j hj=>upd_ne _ _ (by omega))
  have c1:=cell_of_row _ _ 1 _ _ _ HBLK.out;have c2:=cell_of_row _ _ 2 _ _ _ HBLK.out;clear hM hA hAk;have hnb:(n+1)*32≤140737488355328:=by omega
  have hnm:n+1≤maxLen:=by omega
  rcases mp0 with ⟨hB,hz,hMz⟩ | ⟨b,hB,hmp⟩
  ·
   subst hB;have HZ:=Lib.hid hz;have HMZ:=Lib.hid hMz;clear hz hMz;have hB0:=(Only.alloc (Only.refl w0 (fun _=>False)) (.map #[] 0)).blk (fun q=>q) HBLK.out
   go_upto_region 3 with (first
    | (with_reducible refine wpList_store_one rfl 26 (.tmp 16) (.tmp 14) rfl sizeMp r 2 rfl (.map (some w0.heap.size)) rfl (cells_map _) (one_map _) [Fv,sv,.map none] 257 hB0 (len3_2 _ _ _) ?_;intro w1 HB1 hg1;clear c1 c2))
   have hOa:Only w0 w1 (fun j=>j=r):=((Only.refl w0 _).alloc _).tr (Only.grown hg1 (Or.inl rfl))
   have hmp1:Mp Tryz.prog 3 w1 w0.heap.size (fun k=>(M k).map (fun j:Nat=>Value.int .i64 (j:Int))) n:=by
    have:=(Mp.made Tryz.prog 3 w0).kept (Only.grown hg1 (Or.inl rfl):Only _ w1 (fun j=>j=r)) (fun q=>by have:=lt_of_row HBLK.out;omega)
    rw [HZ.out];exact this.ext (fun x _=>by rw [HMZ.out x];rfl)
   have HBA:Hid (w1.heap[r]?=some (.cells #[Fv,sv,.map (some w0.heap.size)] 257 (0,0))):=HB1;have hrb1:r≠w0.heap.size:=by have:=lt_of_row HBLK.out;omega
   have hgb1:∀ g,G=some g→g≠w0.heap.size:=fun g q=>by have:=its0.lt g q;omega
   have hbX:X w0.heap.size∨w.heap.size≤w0.heap.size:=Or.inr hO0.size;have hOW:Only w w1 (fun j=>X j∨S j):=hOX.trans hOa (fun j q=>Or.inl (Or.inl (by rw [q];exact h1)))
   have itsA:=its0.kept hOa (fun g q=>fun e=>hrg g q e.symm);have HBX1:=hOa.blk (fun q=>by omega) HBX.out
   have hCA:=L.keep w0 w1 m _ hC0 hOa (fun j q e=>hS j q (by rw [e];exact h1))
   have c1:=cell_of_row _ _ 1 _ _ _ HBA.out;have c2:=cell_of_row _ _ 2 _ _ _ HBA.out;rw [hsl] at c1;go_upto_region 6 with (first | (at_lookup;refine wpList_mp_none rfl (.tmp 21) (.tmp 22) 26 rfl 3 3 Tryz.underlying3 Tryz.underlying26 (zeroI _) w0.heap.size _ n rfl hmp1 k rfl hk (by simp [HM.out]) ?_))
   have hOb:Only w1 (w1.alloc (.cells #[.int .i64 0,.int .u64 0,.int .u64 0,.int .i64 0] 259)) (fun _=>False):=(Only.refl w1 _).alloc _;have itsB:=itsA.kept hOb (fun _ _ q=>q);have hrB:=range_new w1 [.int .i64 0,.int .u64 0,.int .u64 0,.int .i64 0] 259;have HBB:=Lib.hid (hOb.blk (fun q=>q) HBA.out)
   go_upto_region 7 with (first
    | (at_builtin;refine wpList_item_app enc rfl (.tmp 37) (.tmp 39) 255 rfl iT (.agg #[.int .i64 0,.int .u64 0,.int .u64 0,.int .i64 0]) 32 Tryz.underlying255 hi1 hi2 hi3 hi4 rfl sv G n T hsl.symm itsB (0,(0,0,0)) w1.heap.size rfl hrB hnm hnb ?_;intro g cap w2 hrow2 hO2 hg2;have HBC:=Lib.hid ((hO2 (fun j=>G=some j) (fun _ q=>q)).blk (fun q=>hrg r q rfl) HBB.out);clear c1 c2)
    | (with_reducible refine wpList_store_one rfl 255 (.tmp 42) (.tmp 40) rfl sizeSl r 1 rfl (.slice (some ⟨g,0,none⟩) (n+1) cap) rfl (cells_slice _ _ _) (one_slice _ _ _) [Fv,sv,.map (some w0.heap.size)] 257 HBC.out (len3_1 _ _ _) ?_;intro w3 HB3 hg3))
   have hOn:=hO2 (fun j=>G=some j) (fun _ q=>q);have hOr:Only w2 w3 (fun j=>j=r):=Only.grown hg3 (Or.inl rfl);have hWs:=hOb.size
   have hgr:r≠g:=by
    rcases hg2 with q | q
    ·exact hrg g q
    ·have:=lt_of_row HBA.out;omega
   have hgb3:g≠w0.heap.size:=by
    rcases hg2 with q | q
    ·exact hgb1 g q
    ·have:=hmp1.lt;omega
   have hmp3:=((hmp1.kept hOb (fun q=>q)).kept hOn (fun q=>hgb1 _ q rfl)).kept hOr (fun q=>hrb1 q.symm);have hall:Only w1 w3 (fun j=>j=r∨G=some j):=((hOb.mono (fun _ q=>q.elim)).tr (hOn.mono (fun _ q=>Or.inr q))).tr (hOr.mono (fun _ q=>Or.inl q))
   have hst:St w3 r Fv g cap w0.heap.size (n+1) (upd T n (0,(0,0,0))) M n:=by
    refine ⟨HB3.out,hrow2.kept hOr (fun q=>hgr q.symm),hmp3,hgr,hrb1,hgb3,fun j hj=>?_⟩
    by_cases e:j=n
    ·subst e;rw [upd_same];decide
    ·rw [upd_ne _ _ e];exact hkeys j (by omega)
   have hC3:=L.keep w1 w3 m _ hCA hall (fun j q e=>by rcases e with e | e;exact hS j q (by rw [e];exact h1);exact hS j q (h2 j e))
   have hSd:∀ j,S j→j≠r∧j≠g∧j≠w0.heap.size:=by
    intro j q;refine ⟨fun e=>hS j q (by rw [e];exact h1),fun e=>?_,fun e=>?_⟩
    ·rcases hg2 with q' | q'
     ·exact hS j q (by rw [e];exact h2 g q')
     ·have:=hSw j q;have:=hOW.size;omega
    ·rcases hbX with q' | q'
     ·exact hS j q (by rw [e];exact q')
     ·have:=hSw j q;omega
   have hset:=settle_any L g cap w0.heap.size (n+1) _ M n n k _ p q d w3 hst hho hpl hv hk (by omega) (by omega) m hm hC3 hSd (fun j q=>by have:=hSw j q;have:=hOW.size;have:=hall.size;omega) (n+1) (by rw [HM.out];rfl)
   rw [HKN.out] at hset;have HBX3:=hall.blk (fun q=>by rcases q with q | q;omega;have:=hGlt _ q;omega) HBX1
   have z0:=cell_of_row _ _ 0 _ _ _ HBX3;have z1:=cell_of_row _ _ 1 _ _ _ HBX3;have z2:=cell_of_row _ _ 2 _ _ _ HBX3;go_wp2_with fail
   refine hset.mono ?_;rintro e w' ⟨rfl,T',M',a,hst',hful',ha,hC',hO'⟩;clear hset;go_wp2_with fail
   go_end0
   have hgX:X g∨w.heap.size≤g:=by
    rcases hg2 with q | q
    ·exact Or.inl (h2 g q)
    ·right;have:=hOW.size;omega
   have hO3:Only w w' (fun j=>X j∨S j):=(hOW.trans hall (fun j q=>by rcases q with q | q;exact Or.inl (Or.inl (by rw [q];exact h1));exact Or.inl (Or.inl (h2 j q)))).trans hO' (fun j q=>by
    rcases q with q | q | q
    ·rw [q];exact hgX.imp Or.inl id
    ·rw [q];exact hbX.imp Or.inl id
    ·exact Or.inl (Or.inr q))
   obtain ⟨X',hX1,hX2⟩:=settled_ob (w:=w) hst' hful' h1 h4 hO3.size hgX hbX;exact ⟨rfl,X',a,hX1,hX2,ha,hC',hO3⟩
  ·subst hB
   have HBA:=HBLK;have hrb1:=hrb b rfl;have hgb1:=fun g q=>hgb g b q rfl;have hbX:X b∨w.heap.size≤b:=Or.inl (h3 b rfl);have hOW:Only w w0 (fun j=>X j∨S j):=hOX;have itsA:=its0.kept (Only.refl w0 (fun _=>False)) (fun g q=>fun q=>q);have HBX1:=HBX.out;have hCA:=hC0;have c1:=cell_of_row _ _ 1 _ _ _ HBA.out;have c2:=cell_of_row _ _ 2 _ _ _ HBA.out;rw [hsl] at c1;go_upto_region 6 with (first | (at_lookup;refine wpList_mp_none rfl (.tmp 21) (.tmp 22) 26 rfl 3 3 Tryz.underlying3 Tryz.underlying26 (zeroI _) b _ n rfl hmp k rfl hk (by simp [HM.out]) ?_))
   have hOb:Only w0 (w0.alloc (.cells #[.int .i64 0,.int .u64 0,.int .u64 0,.int .i64 0] 259)) (fun _=>False):=(Only.refl w0 _).alloc _;have itsB:=itsA.kept hOb (fun _ _ q=>q);have hrB:=range_new w0 [.int .i64 0,.int .u64 0,.int .u64 0,.int .i64 0] 259;have HBB:=Lib.hid (hOb.blk (fun q=>q) HBA.out)
   go_upto_region 7 with (first
    | (at_builtin;refine wpList_item_app enc rfl (.tmp 37) (.tmp 39) 255 rfl iT (.agg #[.int .i64 0,.int .u64 0,.int .u64 0,.int .i64 0]) 32 Tryz.underlying255 hi1 hi2 hi3 hi4 rfl sv G n T hsl.symm itsB (0,(0,0,0)) w0.heap.size rfl hrB hnm hnb ?_;intro g cap w2 hrow2 hO2 hg2;have HBC:=Lib.hid ((hO2 (fun j=>G=some j) (fun _ q=>q)).blk (fun q=>hrg r q rfl) HBB.out);clear c1 c2)
    | (with_reducible refine wpList_store_one rfl 255 (.tmp 42) (.tmp 40) rfl sizeSl r 1 rfl (.slice (some ⟨g,0,none⟩) (n+1) cap) rfl (cells_slice _ _ _) (one_slice _ _ _) [Fv,sv,.map (some b)] 257 HBC.out (len3_1 _ _ _) ?_;intro w3 HB3 hg3))
   have hOn:=hO2 (fun j=>G=some j) (fun _ q=>q);have hOr:Only w2 w3 (fun j=>j=r):=Only.grown hg3 (Or.inl rfl);have hWs:=hOb.size
   have hgr:r≠g:=by
    rcases hg2 with q | q
    ·exact hrg g q
    ·have:=lt_of_row HBA.out;omega
   have hgb3:g≠b:=by
    rcases hg2 with q | q
    ·exact hgb1 g q
    ·have:=hmp.lt;omega
   have hmp3:=((hmp.kept hOb (fun q=>q)).kept hOn (fun q=>hgb1 _ q rfl)).kept hOr (fun q=>hrb1 q.symm);have hall:Only w0 w3 (fun j=>j=r∨G=some j):=((hOb.mono (fun _ q=>q.elim)).tr (hOn.mono (fun _ q=>Or.inr q))).tr (hOr.mono (fun _ q=>Or.inl q))
   have hst:St w3 r Fv g cap b (n+1) (upd T n (0,(0,0,0))) M n:=by
    refine ⟨HB3.out,hrow2.kept hOr (fun q=>hgr q.symm),hmp3,hgr,hrb1,hgb3,fun j hj=>?_⟩
    by_cases e:j=n
    ·subst e;rw [upd_same];decide
    ·rw [upd_ne _ _ e];exact hkeys j (by omega)
   have hC3:=L.keep w0 w3 m _ hCA hall (fun j q e=>by rcases e with e | e;exact hS j q (by rw [e];exact h1);exact hS j q (h2 j e))
   have hSd:∀ j,S j→j≠r∧j≠g∧j≠b:=by
    intro j q;refine ⟨fun e=>hS j q (by rw [e];exact h1),fun e=>?_,fun e=>?_⟩
    ·rcases hg2 with q' | q'
     ·exact hS j q (by rw [e];exact h2 g q')
     ·have:=hSw j q;have:=hOW.size;omega
    ·rcases hbX with q' | q'
     ·exact hS j q (by rw [e];exact q')
     ·have:=hSw j q;omega
   have hset:=settle_any L g cap b (n+1) _ M n n k _ p q d w3 hst hho hpl hv hk (by omega) (by omega) m hm hC3 hSd (fun j q=>by have:=hSw j q;have:=hOW.size;have:=hall.size;omega) (n+1) (by rw [HM.out];rfl)
   rw [HKN.out] at hset;have HBX3:=hall.blk (fun q=>by rcases q with q | q;omega;have:=hGlt _ q;omega) HBX1
   have z0:=cell_of_row _ _ 0 _ _ _ HBX3;have z1:=cell_of_row _ _ 1 _ _ _ HBX3;have z2:=cell_of_row _ _ 2 _ _ _ HBX3;go_wp2_with fail
   refine hset.mono ?_;rintro e w' ⟨rfl,T',M',a,hst',hful',ha,hC',hO'⟩;clear hset;go_wp2_with fail
   go_end0
   have hgX:X g∨w.heap.size≤g:=by
    rcases hg2 with q | q
    ·exact Or.inl (h2 g q)
    ·right;have:=hOW.size;omega
   have hO3:Only w w' (fun j=>X j∨S j):=(hOW.trans hall (fun j q=>by rcases q with q | q;exact Or.inl (Or.inl (by rw [q];exact h1));exact Or.inl (Or.inl (h2 j q)))).trans hO' (fun j q=>by
    rcases q with q | q | q
    ·rw [q];exact hgX.imp Or.inl id
    ·rw [q];exact hbX.imp Or.inl id
    ·exact Or.inl (Or.inr q))
   obtain ⟨X',hX1,hX2⟩:=settled_ob (w:=w) hst' hful' h1 h4 hO3.size hgX hbX;exact ⟨rfl,X',a,hX1,hX2,ha,hC',hO3⟩
theorem mapZn (M:Int→Option Nat) (k:Int):(fun k'=>(updZ M k none k').map (fun j:Nat=>Value.int .i64 (j:Int)))=updZ (fun k'=>(M k').map (fun j:Nat=>Value.int .i64 (j:Int))) k none:=by
 funext k';unfold updZ;split <;> rfl
theorem updZ_back (A:Int→Option V) (k:Int) (v:V) (h:A k=some v):updZ (updZ A k none) k (some v)=A:=by
 rw [updZ_twice];funext j;unfold updZ;split
 ·rename_i e;rw [e,h]
 ·rfl
theorem drop_none {r:Nat} {Fv:Value} (n:Nat) (A:Int→Option V) (X:Nat→Prop) (k:Int) (w:World) (h:Ob w r Fv n A X) (hk:(KL k).wf=true) (hA:A k=none) :
  Calls Tryz.prog 160 #[.pointer (some ⟨r,0,none⟩),.int .i64 k] w fun e w'=>e=.returned (.bool false)∧w=w':=by
 obtain ⟨G,B,sv,T,M,h,h1,h2,h3,h4⟩:=h;have c2:=cell_of_row _ _ 2 _ _ _ h.blk
 have hM:M k=none:=by
  cases q:M k with
  | none=>rfl
  | some i=>rw [(h.full.get q).2.1] at hA;cases hA
 have HM:=Lib.hid hM;clear hM hA
 rcases h.mp with ⟨hB,_⟩ | ⟨b,hB,hmp⟩
 ·subst hB
  go_enter Tryz.func160,Tryz.ntmps160
  go_wp2_with (at_lookup;refine wpList_nilmap_ok rfl (.tmp 13) (.tmp 14) 26 rfl 3 3 Tryz.underlying3 Tryz.underlying26 (zeroI _) rfl k rfl hk ?_)
  go_ret
  exact ⟨rfl,rfl⟩
 ·subst hB
  go_enter Tryz.func160,Tryz.ntmps160
  go_wp2_with (at_lookup;refine wpList_mp_none rfl (.tmp 13) (.tmp 14) 26 rfl 3 3 Tryz.underlying3 Tryz.underlying26 (zeroI _) b _ n rfl hmp k rfl hk (by simp [HM.out]) ?_)
  go_ret
  exact ⟨rfl,rfl⟩
theorem drop_some {r:Nat} {Fv:Value} {S:Nat→Prop} {C:Nat→World→Prop} (L:Less r Fv S C) (n:Nat) (A:Int→Option V) (X:Nat→Prop) (k:Int) (v0:V) (w:World) (h:Ob w r Fv n A X) (hk:(KL k).wf=true) (hA:A k=some v0) (hn:n<1073741824)
  (m:Nat) (hm:m<2305843009213693952) (hC:C m w) (hS:∀ j,S j→¬ X j) (hSw:∀ j,S j→j<w.heap.size) (n1:Nat) (hn1:n=n1+1) :
  Calls Tryz.prog 160 #[.pointer (some ⟨r,0,none⟩),.int .i64 k] w fun e w'=>e=.returned (.bool true)∧∃ (X':Nat→Prop) (a:Nat),Ob w' r Fv n1 (updZ A k none) X'∧(∀ j,X' j→X j∨w.heap.size≤j)∧a≤90∧C (m+a) w'∧Only w w' (fun j=>X j∨S j):=by
 obtain ⟨G,B,sv,T,M,h,h1,h2,h3,h4⟩:=h;have hml:(1073741824:Nat)<maxLen:=by decide
 cases hM:M k with
 | none=>rw [h.full.isnone hM] at hA;cases hA
 | some i =>
  obtain ⟨hin,_,hkey⟩:=h.full.get hM;obtain ⟨g,cap,hG,rfl,hrow⟩:=h.its.some_ (by omega)
  obtain ⟨b,hB,hmp⟩:∃ b,B=some b∧Mp Tryz.prog 3 w b (fun k=>(M k).map (fun j:Nat=>Value.int .i64 (j:Int))) n:=by
   rcases h.mp with ⟨_,_,q⟩ | q
   ·rw [q k] at hM;cases hM
   ·exact q
  subst hB hG;have hrg:=h.rg g rfl;have hrb:=h.rb b rfl;have hgb:=h.gb g b rfl rfl;have HFU:=Lib.hid h.full;have hkeys:=h.keys;have hcap:=hrow.cap_;have hn1n:n1<n:=by omega
  have hsub:(n:Int)-1=(n1:Int):=by omega
  have hni:(n:Int)<1073741824:=by omega
  have hn0:(0:Int)<(n:Int):=by omega
  have hn1i:(n1:Int)<(n:Int):=by omega
  have hn1c:(n1:Int)≤(cap:Int):=by omega
  have hii:(i:Int)<(n:Int):=by omega
  have HN1:=Lib.hid hn1;have HM:=Lib.hid hM;have c1:=cell_of_row _ _ 1 _ _ _ h.blk;have c2:=cell_of_row _ _ 2 _ _ _ h.blk;have HBLK:=Lib.hid h.blk;clear h hn1 hM hA
  go_enter Tryz.func160,Tryz.ntmps160
  go_upto_region 5 with (first
   | (at_lookup;refine wpList_mp_some rfl (.tmp 13) (.tmp 14) 26 rfl 3 3 Tryz.underlying3 Tryz.underlying26 (zeroI _) b _ n rfl hmp k rfl hk (.int .i64 (i:Int)) (by simp [HM.out]) ?_)
   | (at_delete;refine wpList_mp_del rfl (.tmp 23) (.tmp 24) 26 3 rfl 3 Tryz.underlying3 Tryz.underlying26 b _ n rfl hmp k rfl hk n1 (by simp [HM.out,HN1.out]) ?_;intro w1 hmp1 hg1;clear c1 c2))
  have hO1:Only w w1 (fun j=>j=b):=Only.grown hg1 (Or.inl rfl);have HB1:=Lib.hid (hO1.blk hrb HBLK.out);have hrow1:=hrow.kept hO1 hgb;obtain ⟨⟨ku,pu,qu,du⟩,hTu⟩:∃ x,T n1=x:=⟨_,rfl⟩;have c1:=cell_of_row _ _ 1 _ _ _ HB1.out;have x0:w1.cell? ⟨g,n1*4,none⟩=some (.int .i64 ku):=hrow1.cell (c:=0) hn1n (by rw [hTu];rfl) rfl
  have x1:w1.cell? ⟨g,n1*4+1,none⟩=some (.int .u64 (pu:Int)):=hrow1.cell (c:=1) hn1n (by rw [hTu];rfl) rfl
  have x2:w1.cell? ⟨g,n1*4+2,none⟩=some (.int .u64 (qu:Int)):=hrow1.cell (c:=2) hn1n (by rw [hTu];rfl) rfl
  have x3:w1.cell? ⟨g,n1*4+3,none⟩=some (.int .i64 du):=hrow1.cell (c:=3) hn1n (by rw [hTu];rfl) rfl
  have HTU:=Lib.hid hTu;clear hTu;go_upto_region 7 with (fail)
  have hO2:Only w1 (w1.alloc (.cells #[.int .i64 ku,.int .u64 (pu:Int),.int .u64 (qu:Int),.int .i64 du] 259)) (fun _=>False):=(Only.refl w1 _).alloc _;have HBX:=Lib.hid (heap_alloc_new w1 (.cells #[.int .i64 ku,.int .u64 (pu:Int),.int .u64 (qu:Int),.int .i64 du] 259));clear c1 x0 x1;clear x2 x3;generalize w1.alloc (.cells #[.int .i64 ku,.int .u64 (pu:Int),.int .u64 (qu:Int),.int .i64 du] 259)=w2 at hO2 HBX ⊢;have HB2:=Lib.hid (hO2.blk (fun q=>q) HB1.out);have hrow2:=hrow1.kept hO2 (fun q=>q);have hmp2:=hmp1.kept hO2 (fun q=>q);have c1:=cell_of_row _ _ 1 _ _ _ HB2.out;go_upto_region 8 with (refine wpList_item_set enc rfl 259 (.tmp 44) (.tmp 43) rfl sizeIt g n cap n1 T rfl (0,(0,0,0)) rfl hrow2 hn1n ?_;intro w3 hrow3 hg3;clear c1)
  have hO3:Only w2 w3 (fun j=>j=g):=Only.grown hg3 (Or.inl rfl);have HB3:=Lib.hid (hO3.blk hrg HB2.out);have hmp3:=hmp2.kept hO3 (fun q=>hgb q.symm);have c1:=cell_of_row _ _ 1 _ _ _ HB3.out;go_upto_region 9 with (with_reducible refine wpList_store_one rfl 255 (.tmp 53) (.tmp 51) rfl sizeSl r 1 rfl (.slice (some ⟨g,0,none⟩) n1 cap) rfl (cells_slice _ _ _) (one_slice _ _ _) [Fv,.slice (some ⟨g,0,none⟩) n cap,.map (some b)] 257 HB3.out (len3_1 _ _ _) ?_;intro w4 HB4 hg4;clear c1)
  have hO4:Only w3 w4 (fun j=>j=r):=Only.grown hg4 (Or.inl rfl);have hrow4:Row ic 4 259 w4 g n1 cap T:=((hrow3.kept hO4 (fun q=>hrg q.symm)).less (by omega)).ext (fun j hj=>by rw [upd_ne _ _ (by omega)])
  have hst:St w4 r Fv g cap b n1 T (updZ M k none) n1:=⟨HB4.out,hrow4,by rw [mapZn];exact hmp3.kept hO4 (fun q=>hrb q.symm),hrg,hrb,hgb,fun j hj=>hkeys j (by omega)⟩
  have hfull:Full lt ok (n1+1) T M A:=by rw [←HN1.out];exact HFU.out
  have hall:Only w w4 (fun j=>j=b∨j=g∨j=r):=(((hO1.mono (fun _ q=>Or.inl q)).tr (hO2.mono (fun _ q=>q.elim))).tr (hO3.mono (fun _ q=>Or.inr (Or.inl q)))).tr (hO4.mono (fun _ q=>Or.inr (Or.inr q)));have hallX:Only w w4 (fun j=>X j∨S j):=hall.mono (fun j q=>by rcases q with q | q | q <;> rw [q];exact Or.inl (h3 b rfl);exact Or.inl (h2 g rfl);exact Or.inl h1)
  have hC4:=L.keep w w4 m _ hC hall (fun j q e=>by rcases e with e | e | e <;> rw [e] at q;exact hS b q (h3 b rfl);exact hS g q (h2 g rfl);exact hS r q h1)
  by_cases hlt:i<n1
  ·have hdi:decide ((i:Int)<(n1:Int))=true:=by simp;omega
   obtain ⟨hho,hpl⟩:=hfull.drop (T':=T) odr HM.out hlt (fun _ _=>rfl);rw [HTU.out] at hpl;have hMu:M ku=some n1:=(hfull.at_ ku n1).2 ⟨by omega,by rw [HTU.out]⟩
   have hku:ku≠k:=by
    intro e;rw [e,HM.out] at hMu;injection hMu;omega
   have hAu:A ku=some (pu,qu,du):=(hfull.con _ _).2 ⟨n1,by omega,HTU.out⟩
   have hoku:=hfull.okV n1 (by omega)
   have hkku:=hkeys n1 (by omega)
   rw [HTU.out] at hoku hkku;have hSd:∀ j,S j→j≠r∧j≠g∧j≠b:=fun j q=>⟨fun e=>hS j q (by rw [e];exact h1),fun e=>hS j q (by rw [e];exact h2 g rfl),fun e=>hS j q (by rw [e];exact h3 b rfl)⟩
   have hset:=settle_any L g cap b n1 T _ n1 i ku _ pu qu du w4 hst hho hpl hoku hkku (by omega) (by omega) m hm hC4 hSd (fun j q=>Nat.lt_of_lt_of_le (hSw j q) hall.size) n1 (by rw [updZ_ne _ _ hku,hMu];rfl)
   rw [updZ_back _ _ _ (by rw [updZ_ne _ _ hku];exact hAu)] at hset
   have hB5:=(hO3.mono (S':=fun j=>j=g∨j=r) (fun _ q=>Or.inl q)).tr (hO4.mono (fun _ q=>Or.inr q));have HBX4:=hB5.blk (fun q=>by have a1:=lt_of_row HB1.out;have a2:=hrow1.lt;omega) HBX.out
   have z0:=cell_of_row _ _ 0 _ _ _ HBX4;have z1:=cell_of_row _ _ 1 _ _ _ HBX4;have z2:=cell_of_row _ _ 2 _ _ _ HBX4;have z3:=cell_of_row _ _ 3 _ _ _ HBX4;clear hMu hAu;go_wp2_with fail
   refine hset.mono ?_;rintro e w' ⟨rfl,T',M',a,hst',hful',ha,hC',hO'⟩;clear hset z0 z1;clear z2 z3;go_wp2_with fail
   go_ret
   have hO6:Only w w' (fun j=>X j∨S j):=hallX.tr (hO'.mono (fun j q=>by rcases q with q | q | q;exact Or.inl (by rw [q];exact h2 g rfl);exact Or.inl (by rw [q];exact h3 b rfl);exact Or.inr q))
   obtain ⟨X',hX1,hX2⟩:=settled_ob (w:=w) hst' hful' h1 h4 hO6.size (Or.inl (h2 g rfl)) (Or.inl (h3 b rfl));exact ⟨rfl,X',a,hX1,hX2,ha,hC',hO6⟩
  ·have hdi:decide ((i:Int)<(n1:Int))=false:=by simp;omega
   have hin1:i=n1:=by have:=HN1.out;omega
   have hMn:M k=some n1:=by rw [HM.out,hin1]
   have hful':=hfull.last (T':=T) hMn (fun _ _=>rfl);clear hMn;have HIN:=Lib.hid hin1;clear hin1;go_wp2_with fail
   go_ret
   obtain ⟨X',hX1,hX2⟩:=settled_ob (w:=w) hst hful' h1 h4 hallX.size (Or.inl (h2 g rfl)) (Or.inl (h3 b rfl));exact ⟨rfl,X',0,hX1,hX2,by omega,hC4,hallX⟩
end Go.Proofs.YthdengocipfgiaaGreat.W.HR
