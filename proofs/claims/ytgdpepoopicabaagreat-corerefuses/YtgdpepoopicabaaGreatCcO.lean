import Derived.Test.YtgdpepoopicabaaGreatCcN
import Derived.BigQuiet
/- A part of what core's laws stand on. -/
set_option linter.unusedVariables false
set_option linter.unusedSimpArgs false
set_option maxRecDepth 100000
set_option maxHeartbeats 6400000
namespace Go.Proofs.YtgdpepoopicabaaGreat.W.C
open Go.RowKit Go.Proofs.YtgdpepoopicabaaGreat.W
attribute [local go_sem] Oper.semAt_some
def Fr (w:World) (o1 o2:Nat→Option Tag) (j:Nat):Prop:=o1 j=none∧o2 j=none∧j<w.heap.size
def Sv (w:World) (o1 o2:Nat→Option Tag) (w':World) (p1 p2:Nat→Option Tag):Prop:=∀ j,Fr w o1 o2 j→Fr w' p1 p2 j∧w'.heap[j]?=w.heap[j]?
theorem Sv.nx1 {w w':World} {o1 o2 p1:Nat→Option Tag} (n:Nx w o1 w' p1):Sv w o1 o2 w' p1 o2:=fun j h=>⟨⟨n.none h.1 h.2.2,h.2.1,by have:=n.only.size;have:=h.2.2;omega⟩,n.only.block j h.2.2 (fun q=>q h.1)⟩
theorem Sv.nx2 {w w':World} {o1 o2 p2:Nat→Option Tag} (n:Nx w o2 w' p2):Sv w o1 o2 w' o1 p2:=fun j h=>⟨⟨h.1,n.none h.2.1 h.2.2,by have:=n.only.size;have:=h.2.2;omega⟩,n.only.block j h.2.2 (fun q=>q h.2.1)⟩
theorem Sv.new {w w':World} {o1 o2:Nat→Option Tag} (o:Only w w' (fun j=>j=w.heap.size)):Sv w o1 o2 w' o1 o2:=fun j h=>⟨⟨h.1,h.2.1,by have:=o.size;have:=h.2.2;omega⟩,o.block j h.2.2 (fun q=>by have:=h.2.2;omega)⟩
theorem Sv.below {w w':World} {o1 o2:Nat→Option Tag} (b:Below w.heap.size w w'):Sv w o1 o2 w' o1 o2:=fun j h=>⟨⟨h.1,h.2.1,by have:=b.size;have:=h.2.2;omega⟩,b.block j h.2.2⟩
theorem Sv.trans {w w1 w2:World} {o1 o2 p1 p2 r1 r2:Nat→Option Tag} (h:Sv w o1 o2 w1 p1 p2) (k:Sv w1 p1 p2 w2 r1 r2):Sv w o1 o2 w2 r1 r2:=fun j q=>⟨(k j (h j q).1).1,(k j (h j q).1).2.trans (h j q).2⟩
theorem Pr.nx1 {w wr w':World} {o1 o2 p1:Nat→Option Tag} {c1 c2:Nat} {s1 s2 s':St} (h:Pr w wr o1 o2 c1 c2 s1 s2) (k:Wk w' p1 c1 s') (n:Nx wr o1 w' p1):Pr w w' p1 o2 c1 c2 s' s2 :=
 ⟨k,h.k2.side n.only (fun j q=>h.ap j q),fun j q=>(n.new j q).elim (h.ap j) (fun e=>h.k2.fresh e),h.f1.nx n,h.f2.side n.only (fun j q=>h.f1.2 j q)⟩
theorem Pr.nx2 {w wr w':World} {o1 o2 p2:Nat→Option Tag} {c1 c2:Nat} {s1 s2 s':St} (h:Pr w wr o1 o2 c1 c2 s1 s2) (k:Wk w' p2 c2 s') (n:Nx wr o2 w' p2):Pr w w' o1 p2 c1 c2 s1 s':=(h.swap.nx1 k n).swap
theorem Pr.base {w wr:World} {o1 o2:Nat→Option Tag} {c1 c2:Nat} {s1 s2:St} (h:Pr w wr o1 o2 c1 c2 s1 s2) {j:Nat} {o:Obj} (hj:w.heap[j]?=some o) (hl:j<w.heap.size):wr.heap[j]?=some o:=by rw [h.f1.1.block _ hl];exact hj
theorem row_eqv {I:Type} {ic:I→List Value} {sz:Nat} {t:TypeId} {w w':World} {g n cap:Nat} {T:Nat→I} (h:Row ic sz t w g n cap T) (e:w'.heap[g]?=w.heap[g]?):Row ic sz t w' g n cap T:=by
 obtain ⟨cur,h1,h2⟩:=h
 exact ⟨cur,e.trans h1,h2⟩
theorem box_cells {w:World} {g n cap:Nat} {T:Nat→Bo} (h:Row brow 8 47 w g n cap T) {k:Nat} (hk:k<n) :
  w.cell? ⟨g,k*8,none⟩=some (.int .i64 (T k).id)∧w.cell? ⟨g,k*8+1,none⟩=some (.int .i64 (T k).fn)∧w.cell? ⟨g,k*8+2,none⟩=some (.int .i64 (T k).ho)∧w.cell? ⟨g,k*8+3,none⟩=some (.int .i64 (T k).me) ∧
  w.cell? ⟨g,k*8+4,none⟩=some (.int .i64 (T k).q.st)∧w.cell? ⟨g,k*8+5,none⟩=some (.bool (T k).q.bd)∧w.cell? ⟨g,k*8+6,none⟩=some (.bool (T k).p)∧w.cell? ⟨g,k*8+7,none⟩=some (.int .i64 (T k).t) :=
 ⟨h.cell hk (c:=0) rfl rfl,h.cell hk (c:=1) rfl rfl,h.cell hk (c:=2) rfl rfl,h.cell hk (c:=3) rfl rfl,h.cell hk (c:=4) rfl rfl,h.cell hk (c:=5) rfl rfl,h.cell hk (c:=6) rfl rfl,h.cell hk (c:=7) rfl rfl⟩
theorem ups_le (m:Tb Unit) (n:Int):(ups m n).length≤n.toNat:=by
 unfold ups
 refine Nat.le_trans (List.length_filter_le _ _) ?_
 simp
theorem refuses_walk (a0:Option Addr) (k cap:Nat) (Z:Nat→Int) (p0 p1 p2 p3 p4 p5 p6 p7 p8 p9:Int) (w:World) (L:Lies w w.heap.size a0 (zs Z (k*10))) (hm:k≤9223372036854775807) :
  Calls Tryz.prog 4 #[.slice a0 k cap,.agg #[.int .i64 p0,.int .i64 p1,.int .i64 p2,.int .i64 p3,.int .i64 p4,.int .i64 p5,.int .i64 p6,.int .i64 p7,.int .i64 p8,.int .i64 p9]] w fun e w'=>e=.returned (.bool true)∧Below w.heap.size w w':=by
 have hb:=heap_alloc_new w (.cells #[.int .i64 p0,.int .i64 p1,.int .i64 p2,.int .i64 p3,.int .i64 p4,.int .i64 p5,.int .i64 p6,.int .i64 p7,.int .i64 p8,.int .i64 p9] 35)
 have bb:Below w.heap.size w (w.alloc (.cells #[.int .i64 p0,.int .i64 p1,.int .i64 p2,.int .i64 p3,.int .i64 p4,.int .i64 p5,.int .i64 p6,.int .i64 p7,.int .i64 p8,.int .i64 p9] 35)):=(Below.refl _ _).alloc (Nat.le_refl _) _
 have hbs:w.heap.size<(w.alloc (.cells #[.int .i64 p0,.int .i64 p1,.int .i64 p2,.int .i64 p3,.int .i64 p4,.int .i64 p5,.int .i64 p6,.int .i64 p7,.int .i64 p8,.int .i64 p9] 35)).heap.size:=by simp
 go_enter Tryz.func4,Tryz.ntmps4
 go_upto_region 1 with (fail)
 obtain ⟨b,hbw⟩:∃ b,w.heap.size=b:=⟨_,rfl⟩
 have LB:=L.below bb (Nat.le_refl _)
 rw [hbw] at hb hbs LB
 try rw [hbw]
 clear hbw L
 generalize w.alloc (.cells #[.int .i64 p0,.int .i64 p1,.int .i64 p2,.int .i64 p3,.int .i64 p4,.int .i64 p5,.int .i64 p6,.int .i64 p7,.int .i64 p8,.int .i64 p9] 35)=wb at hb bb hbs LB ⊢
 have HB:=Lib.hid (And.intro hb hbs)
 have BB:=Lib.hid bb
 clear hb hbs bb
 go_wp2_with fail
 with_reducible refine (l_head _).mono ?_
 rintro e w1 ⟨rfl,b1⟩
 by_cases h120:120<k
 ·go_wp2_with fail
  go_ret
  exact ⟨rfl,BB.out.trans (b1.mono BB.out.size)⟩
 ·clear hm
  have hb1:w1.heap[b]?=some (.cells #[.int .i64 p0,.int .i64 p1,.int .i64 p2,.int .i64 p3,.int .i64 p4,.int .i64 p5,.int .i64 p6,.int .i64 p7,.int .i64 p8,.int .i64 p9] 35):=by rw [b1.block _ HB.out.2];exact HB.out.1
  have ⟨y0,y1,y2,y3,y4,y5,y6,y7,y8,y9⟩:=ev_cells hb1
  clear hb1
  by_cases h40:p9≤40
  ·have dm:=l_mild w1 p0 p1 p2 p3 p4 p5 p6 p7 p8 p9
   rw [decide_eq_true h40] at dm
   clear h40
   go_upto_region 5 with (first | (go_at_call 11;go_loud (with_reducible refine dm.mono ?_;rintro e w2 ⟨rfl,b2⟩)))
   have b02:=Lib.hid (b1.trans (b2.mono b1.size))
   clear y0 y1 y2 y3 y4 y5 y6 y7 y8 y9 dm b1 b2
   go_wp2_with fail
   with_reducible refine (c_NewW w2).mono ?_
   rintro e w3 ⟨c1,r1,rfl,k1,_,g1,b3⟩
   go_wp2_with fail
   with_reducible refine (c_NewW w3).mono ?_
   rintro e w4 ⟨c2,r2,rfl,k2,_,g2,b4⟩
   have P3:=Lib.hid (Pr.new b02.out k1 g1 b3 k2 g2 b4)
   have I3:Hid (Inv ((120-0)*128128) 0 St.zero∧St.zero.out=[]):=Lib.hid ⟨Inv.zero (by decide),rfl⟩
   clear b02 k1 g1 b3 k2 g2 b4
   go_wp2_with fail
   go_loopg [33] k (fun gk v33 wr=>∃ (i:Nat) (o1 o2:Nat→Option Tag) (s:St),v33=.int .i64 (i:Int)∧Hid (i+gk=k)∧Hid (Inv ((120-i)*128128) 0 s∧s.out=[])∧Hid (Pr wb wr o1 o2 c1 c2 s s))
   case atStart=>exact ⟨0,r1,r2,St.zero,rfl,Lib.hid (by omega),I3,P3⟩
   case round =>
    clear P3 I3
    obtain ⟨i,o1,o2,s,rfl,HK,HI,HP⟩:=hrel
    by_cases hi:i<k
    ·obtain ⟨ad,rfl,hab,hcell⟩:=(LB.below (HP.out.f1.1.mono (Nat.le_of_lt HB.out.2)) (Nat.le_refl _)).num (j:=i*10) (by omega)
     have hli:(i:Int)<(k:Int):=by omega
     obtain ⟨W0,hW0⟩:∃ W0,W0=wr:=⟨_,rfl⟩
     subst hW0
     have x0:W0.cell? (ad.add (i*10))=some (.int .i64 (Z (i*10))):=hcell (i*10) (by omega)
     have x1:=cell_in (c:=0) (hcell (i*10+1) (by omega))
     have x2:=cell_in (c:=1) (hcell (i*10+2) (by omega))
     have x3:=cell_in (c:=2) (hcell (i*10+3) (by omega))
     have x4:=cell_in (c:=3) (hcell (i*10+4) (by omega))
     have x5:=cell_in (c:=4) (hcell (i*10+5) (by omega))
     have x6:=cell_in (c:=5) (hcell (i*10+6) (by omega))
     have x7:=cell_in (c:=6) (hcell (i*10+7) (by omega))
     have x8:=cell_in (c:=7) (hcell (i*10+8) (by omega))
     have x9:=cell_in (c:=8) (hcell (i*10+9) (by omega))
     obtain ⟨q0,hq0⟩:∃ q,Z (i*10)=q:=⟨_,rfl⟩
     obtain ⟨q1,hq1⟩:∃ q,Z (i*10+1)=q:=⟨_,rfl⟩
     obtain ⟨q2,hq2⟩:∃ q,Z (i*10+2)=q:=⟨_,rfl⟩
     obtain ⟨q3,hq3⟩:∃ q,Z (i*10+3)=q:=⟨_,rfl⟩
     obtain ⟨q4,hq4⟩:∃ q,Z (i*10+4)=q:=⟨_,rfl⟩
     obtain ⟨q5,hq5⟩:∃ q,Z (i*10+5)=q:=⟨_,rfl⟩
     obtain ⟨q6,hq6⟩:∃ q,Z (i*10+6)=q:=⟨_,rfl⟩
     obtain ⟨q7,hq7⟩:∃ q,Z (i*10+7)=q:=⟨_,rfl⟩
     obtain ⟨q8,hq8⟩:∃ q,Z (i*10+8)=q:=⟨_,rfl⟩
     obtain ⟨q9,hq9⟩:∃ q,Z (i*10+9)=q:=⟨_,rfl⟩
     rw [hq0] at x0
     rw [hq1] at x1
     rw [hq2] at x2
     rw [hq3] at x3
     rw [hq4] at x4
     rw [hq5] at x5
     rw [hq6] at x6
     rw [hq7] at x7
     rw [hq8] at x8
     rw [hq9] at x9
     clear hq0 hq1 hq2 hq3 hq4 hq5 hq6 hq7 hq8 hq9 hcell
     go_upto_region 10 with (fail)
     have hbox:=heap_alloc_new W0 (.cells #[.int .i64 q0,.int .i64 q1,.int .i64 q2,.int .i64 q3,.int .i64 q4,.int .i64 q5,.int .i64 q6,.int .i64 q7,.int .i64 q8,.int .i64 q9] 35)
     have o5:Only W0 (W0.alloc (.cells #[.int .i64 q0,.int .i64 q1,.int .i64 q2,.int .i64 q3,.int .i64 q4,.int .i64 q5,.int .i64 q6,.int .i64 q7,.int .i64 q8,.int .i64 q9] 35)) (fun _=>False):=(Only.refl W0 _).alloc _
     have P5:=HP.out.grow o5
     have hx0:=HP.out.fresh (Nat.le_refl W0.heap.size)
     obtain ⟨x,hx⟩:∃ x,W0.heap.size=x:=⟨_,rfl⟩
     rw [hx] at hbox hx0
     try rw [hx]
     clear x0 x1 x2 x3 x4 x5 x6 x7 x8 x9 HP o5 hx hab
     generalize W0.alloc (.cells #[.int .i64 q0,.int .i64 q1,.int .i64 q2,.int .i64 q3,.int .i64 q4,.int .i64 q5,.int .i64 q6,.int .i64 q7,.int .i64 q8,.int .i64 q9] 35)=w5 at hbox P5 ⊢
     have F5:Fr w5 o1 o2 x:=⟨hx0.1,hx0.2.1,lt_of_row hbox⟩
     have ⟨y0,y1,y2,y3,y4,y5,y6,y7,y8,y9⟩:=ev_cells hbox
     clear hx0
     by_cases h40:q9≤40
     ·have dm:=l_mild w5 q0 q1 q2 q3 q4 q5 q6 q7 q8 q9
      rw [decide_eq_true h40] at dm
      clear h40
      go_wp2_with fail
      with_reducible refine dm.mono ?_
      rintro e w6 ⟨rfl,b56⟩
      have S6:Sv w5 o1 o2 w6 o1 o2:=Sv.below b56
      have HE6:=Lib.hid (And.intro (S6 _ F5).1 ((S6 _ F5).2.trans hbox))
      have P6:=P5.grow (Only.of_below b56)
      clear y0 y1 y2 y3 y4 y5 y6 y7 y8 y9 dm P5 b56 hbox F5 S6
      have ⟨y0,y1,y2,y3,y4,y5,y6,y7,y8,y9⟩:=ev_cells HE6.out.2
      have HI6:Hid (Inv ((120-(i+1))*128128+64064+64064) 0 s):=Lib.hid (HI.out.1.mono (by omega) (Nat.le_refl _))
      have hI7:=Inv.doE HI6.out ⟨q0,q1,q2,q3,q4,q5,q6,q7,q8,q9⟩
      have hO7:=doE_out HI.out.2 ⟨q0,q1,q2,q3,q4,q5,q6,q7,q8,q9⟩
      have hA7:=doE_ok HI6.out ⟨q0,q1,q2,q3,q4,q5,q6,q7,q8,q9⟩
      have d1:=c_Do P6.k1 HI6.out q0 q1 q2 q3 q4 q5 q6 q7 q8 q9
      have hd2:=fun W o (k2:Wk W o c2 s)=>c_Do k2 HI6.out q0 q1 q2 q3 q4 q5 q6 q7 q8 q9
      obtain ⟨r,hr⟩:∃ r,s.doE ⟨q0,q1,q2,q3,q4,q5,q6,q7,q8,q9⟩=r:=⟨_,rfl⟩
      rw [hr] at d1 hI7 hO7 hA7
      simp only [hr] at hd2
      obtain ⟨s1,⟨b1,b2,b3,b4⟩,l⟩:=r
      have HI7:=Lib.hid (And.intro hI7 hO7)
      have HA7:=Lib.hid hA7
      clear hr HI HI6 hI7 hO7 hA7
      go_upto_region 12 with (first
       | (go_at_call 8;go_loud (with_reducible refine d1.mono ?_;rintro e w7 ⟨sv1,rfl,n1,G1,k7,n7,_,_⟩;have HX7:=new_ans w7))
       | (with_reducible refine wpList_store_ans rfl (.tmp 9) (.tmp 44) rfl w7.heap.size b1 b2 b3 b4 rfl rfl 0 0 0 0 HX7 ?_;intro w8 HG8 hg8))
      have P7:=P6.nx1 k7 n7
      have o8:=ans_only hg8
      have P8:=P7.side o8 (fun j q=>P7.fresh (by omega))
      have S8:=(Sv.nx1 (o2:=o2) n7).trans (Sv.new o8)
      have HE8:=Lib.hid (And.intro (S8 _ HE6.out.1).1 ((S8 _ HE6.out.1).2.trans HE6.out.2))
      have FX8:=Lib.hid (show Fr w8 n1 o2 w7.heap.size from ⟨(P7.fresh (Nat.le_refl _)).1,(P7.fresh (Nat.le_refl _)).2.1,lt_of_row HG8.out⟩)
      obtain ⟨X,hX⟩:∃ X,w7.heap.size=X:=⟨_,rfl⟩
      rw [hX] at HG8 FX8
      try rw [hX]
      clear y0 y1 y2 y3 y4 y5 y6 y7 y8 y9 HX7 d1 P6 P7 k7 n7 o8 hg8 HE6 hX S8
      have ⟨y0,y1,y2,y3,y4,y5,y6,y7,y8,y9⟩:=ev_cells HE8.out.2
      have d2:=hd2 w8 o2 P8.k2
      clear hd2
      go_wp2_with fail
      with_reducible refine d2.mono ?_
      rintro e w9 ⟨sv2,rfl,n2,G2,k9,n9,_,_⟩
      have P9:=P8.nx2 k9 n9
      have S9:=Sv.nx2 (o1:=n1) n9
      have HX9:=Lib.hid ((S9 _ FX8.out).2.trans HG8.out)
      have FX9:=Lib.hid (S9 _ FX8.out).1
      clear y0 y1 y2 y3 y4 y5 y6 y7 y8 y9 d2 P8 k9 n9 S9 HE8 HG8 FX8
      have dB:=c_Boxes P9.k1 HI7.out.1
      obtain ⟨nb,hnb⟩:∃ nb,(ups s1.mx s1.last).length=nb:=⟨_,rfl⟩
      obtain ⟨TB,hTB⟩:∃ TB,s1.box=TB:=⟨_,rfl⟩
      have hlim:nb<1073741824:=by rw [←hnb];have h1:=ups_le s1.mx s1.last;have h2:=HI7.out.1.last;omega
      have HLim:=Lib.hid hlim
      rw [hnb,hTB] at dB
      clear hlim
      go_wp2_with fail
      with_reducible refine dB.mono ?_
      rintro e w10 ⟨g11,cap11,rfl,R10,hg11,b10⟩
      have P10:=P9.grow (Only.of_below b10)
      have S10:Sv w9 n1 n2 w10 n1 n2:=Sv.below b10
      have HX10:=Lib.hid (And.intro (S10 _ FX9.out).1 ((S10 _ FX9.out).2.trans HX9.out))
      have HR10:=Lib.hid (show Fr w10 n1 n2 g11∧Row brow 8 47 w10 g11 nb cap11 TB from ⟨⟨(P9.fresh hg11).1,(P9.fresh hg11).2.1,R10.lt⟩,R10⟩)
      clear dB P9 S10 HX9 FX9 R10 hg11 b10
      have ⟨y0,y1,y2,y3,y4,y5,y6,y7,y8,y9⟩:=ev_cells (P10.base HB.out.1 HB.out.2)
      have hI11:=Inv.doE HI7.out.1 ⟨p0,p1,p2,p3,p4,p5,p6,p7,p8,p9⟩
      have hO11:=doE_out HI7.out.2 ⟨p0,p1,p2,p3,p4,p5,p6,p7,p8,p9⟩
      have hA11:=doE_ok HI7.out.1 ⟨p0,p1,p2,p3,p4,p5,p6,p7,p8,p9⟩
      have hR11:=doE_ref HI7.out.1 HI7.out.2 (e:=⟨p0,p1,p2,p3,p4,p5,p6,p7,p8,p9⟩)
      have d3:=c_Do P10.k1 HI7.out.1 p0 p1 p2 p3 p4 p5 p6 p7 p8 p9
      have hd4:=fun W o (k2:Wk W o c2 s1)=>c_Do k2 HI7.out.1 p0 p1 p2 p3 p4 p5 p6 p7 p8 p9
      obtain ⟨r',hr⟩:∃ r,s1.doE ⟨p0,p1,p2,p3,p4,p5,p6,p7,p8,p9⟩=r:=⟨_,rfl⟩
      rw [hr] at d3 hI11 hO11 hA11 hR11
      simp only [hr] at hd4
      obtain ⟨s2,⟨m1,m2,m3,m4⟩,l2⟩:=r'
      have HI11:=Lib.hid (And.intro hI11 hO11)
      have HA11:=Lib.hid hA11
      have HR11:=Lib.hid hR11
      clear hr hI11 hO11 hA11 hR11
      go_upto_region 15 with (first
       | (go_at_call 8;go_loud (with_reducible refine d3.mono ?_;rintro e w11 ⟨sv3,rfl,n3,G3,k11,n11,i11,_⟩;have HX11:=new_ans w11))
       | (with_reducible refine wpList_store_ans rfl (.tmp 12) (.tmp 55) rfl w11.heap.size m1 m2 m3 m4 rfl rfl 0 0 0 0 HX11 ?_;intro w12 HG12 hg12))
      have P11:=P10.nx1 k11 n11
      have o12:=ans_only hg12
      have P12:=P11.side o12 (fun j q=>P11.fresh (by omega))
      have S12:=(Sv.nx1 (o2:=n2) n11).trans (Sv.new o12)
      have HX12:=Lib.hid (And.intro (S12 _ HX10.out.1).1 ((S12 _ HX10.out.1).2.trans HX10.out.2))
      have HR12:=Lib.hid (And.intro (S12 _ HR10.out.1).1 (row_eqv HR10.out.2 (S12 _ HR10.out.1).2))
      have FY12:=Lib.hid (show Fr w12 n3 n2 w11.heap.size from ⟨(P11.fresh (Nat.le_refl _)).1,(P11.fresh (Nat.le_refl _)).2.1,lt_of_row HG12.out⟩)
      obtain ⟨A3,cp3,rfl,_⟩:=i11.slice
      obtain ⟨Y,hY⟩:∃ Y,w11.heap.size=Y:=⟨_,rfl⟩
      rw [hY] at HG12 FY12
      try rw [hY]
      clear y0 y1 y2 y3 y4 y5 y6 y7 y8 y9 HX11 d3 P10 P11 k11 n11 i11 o12 hg12 HX10 HR10 hY S12
      by_cases hm1:m1=1
      ·subst hm1
       obtain ⟨rfl,rfl⟩:s2=s1∧l2=[]:=HR11.out rfl
       have ⟨u0,u1,u2,u3⟩:=an_cells HG12.out
       have dC:=c_Boxes P12.k1 HI7.out.1
       rw [hnb,hTB] at dC
       clear hd4
       go_upto_region 18 with (first
        | (go_at_call 10;go_loud (with_reducible refine dC.mono ?_;rintro e w14 ⟨g14,cap14,rfl,R14,hg14,b14⟩)))
       have P14:=Lib.hid (P12.grow (Only.of_below b14))
       have S14:Sv w12 n3 n2 w14 n3 n2:=Sv.below b14
       have hrow1:=row_eqv HR12.out.2 (S14 _ HR12.out.1).2
       have HR1:=Lib.hid hrow1
       have HR2:=Lib.hid R14
       have HX14:=Lib.hid ((S14 _ HX12.out.1).2.trans HX12.out.2)
       have HY14:=Lib.hid ((S14 _ FY12.out).2.trans HG12.out)
       clear u0 u1 u2 u3 dC P12 b14 S14 HR12 R14 hg14 HX12 FY12 HG12 hrow1
       have ⟨u0,u1,u2,u3⟩:=an_cells HY14.out
       go_upto_region 21 with (fail)
       clear u0 u1 u2 u3
       go_wp2_with fail
       go_loopg [80] nb (fun gk vq wr=>∃ (q:Nat),vq=.int .i64 (q:Int)∧Hid (q+gk=nb)∧∃ j,wr=w14.drewN j)
       case atStart=>exact ⟨0,rfl,Lib.hid (by omega),0,rfl⟩
       case round =>
        obtain ⟨q,rfl,HQ,jd,rfl⟩:=hrel
        by_cases hq:q<nb
        ·have hqI:(q:Int)<(nb:Int):=by omega
         have ⟨x0,x1,x2,x3,x4,x5,x6,x7⟩:=box_cells HR1.out hq
         have ⟨z0,z1,z2,z3,z4,z5,z6,z7⟩:=box_cells HR2.out hq
         have HQ2:=Lib.hid hq
         go_wp2_with fail
         obtain ⟨v0,e0⟩:∃ v,(TB q).id=v:=⟨_,rfl⟩
         obtain ⟨v1,e1⟩:∃ v,(TB q).fn=v:=⟨_,rfl⟩
         obtain ⟨v2,e2⟩:∃ v,(TB q).ho=v:=⟨_,rfl⟩
         obtain ⟨v3,e3⟩:∃ v,(TB q).me=v:=⟨_,rfl⟩
         obtain ⟨v4,e4⟩:∃ v,(TB q).q.st=v:=⟨_,rfl⟩
         obtain ⟨v5,e5⟩:∃ v,(TB q).q.bd=v:=⟨_,rfl⟩
         obtain ⟨v6,e6⟩:∃ v,(TB q).p=v:=⟨_,rfl⟩
         obtain ⟨v7,e7⟩:∃ v,(TB q).t=v:=⟨_,rfl⟩
         rw [e0] at x0 z0
         rw [e1] at x1 z1
         rw [e2] at x2 z2
         rw [e3] at x3 z3
         rw [e4] at x4 z4
         rw [e5] at x5 z5
         rw [e6] at x6 z6
         rw [e7] at x7 z7
         clear e0 e1 e2 e3 e4 e5 e6 e7
         go_quiet (fail)
         go_wp2_with fail
         go_roundg (nb-(q+1))
         case measure=>have:=HQ.out;omega
         case rel=>exact ⟨q+1,by first | rfl | (rw [IntWalk.wrap64_in _ ⟨by omega,by have:=HLim.out;omega⟩];rfl),Lib.hid (by omega),_,rfl⟩
        ·have hqn:q=nb:=by have:=HQ.out;omega
         subst hqn
         have hX15:=HX14.out
         have hY15:=HY14.out
         have dR1:=ans_right (b1,b2,b3,b4) HA7.out
         have dR2:=ans_right (1,m2,m3,m4) HA11.out
         have P15:=Lib.hid (P14.out.grow ((Only.refl _ _).drewN jd))
         have HX15:Hid ((w14.drewN jd).heap[X]?=some (ano b1 b2 b3 b4)):=Lib.hid hX15
         have HY15:Hid ((w14.drewN jd).heap[Y]?=some (ano 1 m2 m3 m4)):=Lib.hid hY15
         clear hX15 hY15 HX14 HY14 HR1 HR2 P14
         generalize w14.drewN jd=w15 at P15 HX15 HY15 ⊢
         have ⟨u0,u1,u2,u3⟩:=an_cells HX15.out
         have R1:=dR1 w15
         clear dR1
         go_wp2_with fail
         with_reducible refine R1.mono ?_
         rintro e w16 ⟨rfl,b16⟩
         have hY16:=(Only.of_below (S:=fun _=>False) b16).blk (fun q=>q) HY15.out
         have P16:=Lib.hid (P15.out.grow (Only.of_below b16))
         clear u0 u1 u2 u3 HX15 HY15 P15 b16 R1
         have ⟨u0,u1,u2,u3⟩:=an_cells hY16
         have R2:=dR2 w16
         clear dR2 hY16
         go_wp2_with (first | (go_at_call 12;go_loud (with_reducible refine R2.mono ?_;rintro e w17 ⟨rfl,b17⟩)))
         have P17:=Lib.hid (P16.out.grow (Only.of_below b17))
         go_roundg (k-(i+1))
         case measure=>have:=HK.out;omega
         case rel=>exact ⟨i+1,n3,n2,s2,rfl,Lib.hid (by omega),HI11,P17⟩
      ·have hne:(m1 == 1)=false:=by simpa using hm1
       have ⟨u0,u1,u2,u3⟩:=an_cells HG12.out
       have ⟨y0,y1,y2,y3,y4,y5,y6,y7,y8,y9⟩:=ev_cells (P12.base HB.out.1 HB.out.2)
       have d4:=hd4 w12 n2 P12.k2
       clear hd4 hm1
       go_wp2_with fail
       with_reducible refine d4.mono ?_
       rintro e w13 ⟨sv4,rfl,n4,G4,k13,n13,_,_⟩
       have P13:=P12.nx2 k13 n13
       have S13:=Sv.nx2 (o1:=n3) n13
       have HX13:=Lib.hid (And.intro (S13 _ HX12.out.1).1 ((S13 _ HX12.out.1).2.trans HX12.out.2))
       have HY13:=Lib.hid (And.intro (S13 _ FY12.out).1 ((S13 _ FY12.out).2.trans HG12.out))
       clear y0 y1 y2 y3 y4 y5 y6 y7 y8 y9 u0 u1 u2 u3 d4 P12 k13 n13 S13 HX12 FY12 HG12 HR12
       have dC:=c_Boxes P13.k1 HI11.out.1
       go_wp2_with fail
       with_reducible refine dC.mono ?_
       rintro e w14 ⟨g14,cap14,rfl,R14,hg14,b14⟩
       have P15:=Lib.hid (P13.grow (Only.of_below b14))
       have S14:Sv w13 n3 n4 w14 n3 n4:=Sv.below b14
       have HX15:=Lib.hid ((S14 _ HX13.out.1).2.trans HX13.out.2)
       have HY15:=Lib.hid ((S14 _ HY13.out.1).2.trans HY13.out.2)
       have dR1:=ans_right (b1,b2,b3,b4) HA7.out
       have dR2:=ans_right (m1,m2,m3,m4) HA11.out
       clear dC P13 b14 S14 HX13 HY13 R14 hg14
       have ⟨u0,u1,u2,u3⟩:=an_cells HX15.out
       have ⟨t0,t1,t2,t3⟩:=an_cells HY15.out
       have R1:=dR1 w14
       clear dR1
       go_wp2_with fail
       with_reducible refine R1.mono ?_
       rintro e w16 ⟨rfl,b16⟩
       have hY16:=(Only.of_below (S:=fun _=>False) b16).blk (fun q=>q) HY15.out
       have P16:=Lib.hid (P15.out.grow (Only.of_below b16))
       clear t0 t1 t2 t3 u0 u1 u2 u3 HX15 HY15 P15 b16 R1
       have ⟨u0,u1,u2,u3⟩:=an_cells hY16
       have R2:=dR2 w16
       clear dR2 hY16
       go_wp2_with (first | (go_at_call 12;go_loud (with_reducible refine R2.mono ?_;rintro e w17 ⟨rfl,b17⟩)))
       have P17:=Lib.hid (P16.out.grow (Only.of_below b17))
       go_roundg (k-(i+1))
       case measure=>have:=HK.out;omega
       case rel=>exact ⟨i+1,n3,n4,s2,rfl,Lib.hid (by omega),HI11,P17⟩
     ·have dm:=l_mild w5 q0 q1 q2 q3 q4 q5 q6 q7 q8 q9
      rw [decide_eq_false h40] at dm
      clear h40
      go_wp2_with fail
      with_reducible refine dm.mono ?_
      rintro e w6 ⟨rfl,b56⟩
      have P6:=Lib.hid (P5.grow (Only.of_below b56))
      clear y0 y1 y2 y3 y4 y5 y6 y7 y8 y9 dm P5 b56 hbox F5
      go_wp2_with fail
      go_roundg (k-(i+1))
      case measure=>have:=HK.out;omega
      case rel=>exact ⟨i+1,o1,o2,s,rfl,Lib.hid (by omega),Lib.hid ⟨HI.out.1.mono (by omega) (Nat.le_refl _),HI.out.2⟩,P6⟩
    ·have hik:i=k:=by have:=HK.out;omega
     subst hik
     have dA:=c_Boxes HP.out.k1 HI.out.1
     obtain ⟨nb,hnb⟩:∃ nb,(ups s.mx s.last).length=nb:=⟨_,rfl⟩
     obtain ⟨TB,hTB⟩:∃ TB,s.box=TB:=⟨_,rfl⟩
     have hlim:nb<1073741824:=by rw [←hnb];have h1:=ups_le s.mx s.last;have h2:=HI.out.1.last;omega
     have HLim:=Lib.hid hlim
     rw [hnb,hTB] at dA
     clear hlim
     go_wp2_with fail
     with_reducible refine dA.mono ?_
     rintro e w7 ⟨g7,cap7,rfl,R7,hg7,b7⟩
     have P7:=Lib.hid (HP.out.grow (Only.of_below b7))
     clear dA b7
     have dB:=c_Boxes P7.out.k2 HI.out.1
     rw [hnb,hTB] at dB
     go_wp2_with fail
     with_reducible refine dB.mono ?_
     rintro e w8 ⟨g8,cap8,rfl,R8,hg8,b8⟩
     have P8:=Lib.hid (P7.out.grow (Only.of_below b8))
     have HR1:=Lib.hid (row_eqv R7 (b8.block _ R7.lt))
     have HR2:=Lib.hid R8
     clear dB b8 R7 R8 hg7 hg8
     have n1:=c_Now P8.out.k1
     have n2:=c_Now P8.out.k2
     go_upto_region 34 with (first
      | (go_at_call 13;with_reducible refine n1.mono ?_;rintro e wx ⟨rfl,hw⟩;have hw:=hw.symm;subst hw)
      | (go_at_call 13;with_reducible refine n2.mono ?_;rintro e wx ⟨rfl,hw⟩;have hw:=hw.symm;subst hw))
     clear n1 n2
     go_wp2_with fail
     go_loopg [120] nb (fun gk vq wr=>∃ (q:Nat),vq=.int .i64 (q:Int)∧Hid (q+gk=nb)∧∃ j,wr=w8.drewN j)
     case atStart=>exact ⟨0,rfl,Lib.hid (by omega),0,rfl⟩
     case round =>
      obtain ⟨q,rfl,HQ,jd,rfl⟩:=hrel
      by_cases hq:q<nb
      ·have hqI:(q:Int)<(nb:Int):=by omega
       have ⟨x0,x1,x2,x3,x4,x5,x6,x7⟩:=box_cells HR1.out hq
       have ⟨z0,z1,z2,z3,z4,z5,z6,z7⟩:=box_cells HR2.out hq
       have HQ2:=Lib.hid hq
       go_wp2_with fail
       obtain ⟨v0,e0⟩:∃ v,(TB q).id=v:=⟨_,rfl⟩
       obtain ⟨v1,e1⟩:∃ v,(TB q).fn=v:=⟨_,rfl⟩
       obtain ⟨v2,e2⟩:∃ v,(TB q).ho=v:=⟨_,rfl⟩
       obtain ⟨v3,e3⟩:∃ v,(TB q).me=v:=⟨_,rfl⟩
       obtain ⟨v4,e4⟩:∃ v,(TB q).q.st=v:=⟨_,rfl⟩
       obtain ⟨v5,e5⟩:∃ v,(TB q).q.bd=v:=⟨_,rfl⟩
       obtain ⟨v6,e6⟩:∃ v,(TB q).p=v:=⟨_,rfl⟩
       obtain ⟨v7,e7⟩:∃ v,(TB q).t=v:=⟨_,rfl⟩
       rw [e0] at x0 z0
       rw [e1] at x1 z1
       rw [e2] at x2 z2
       rw [e3] at x3 z3
       rw [e4] at x4 z4
       rw [e5] at x5 z5
       rw [e6] at x6 z6
       rw [e7] at x7 z7
       clear e0 e1 e2 e3 e4 e5 e6 e7
       go_quiet (fail)
       go_wp2_with fail
       go_roundg (nb-(q+1))
       case measure=>have:=HQ.out;omega
       case rel=>exact ⟨q+1,by first | rfl | (rw [IntWalk.wrap64_in _ ⟨by omega,by have:=HLim.out;omega⟩];rfl),Lib.hid (by omega),_,rfl⟩
      ·have hqn:q=nb:=by have:=HQ.out;omega
       subst hqn
       go_wp2_with fail
       go_ret
       exact ⟨rfl,BB.out.trans ((below_drewN P8.out.f1.1 jd).mono BB.out.size)⟩
  ·have dm:=l_mild w1 p0 p1 p2 p3 p4 p5 p6 p7 p8 p9
   rw [decide_eq_false h40] at dm
   clear h40
   go_upto_region 4 with (first | (go_at_call 11;go_loud (with_reducible refine dm.mono ?_;rintro e w2 ⟨rfl,b2⟩)))
   go_wp2_with fail
   go_ret
   exact ⟨rfl,BB.out.trans ((b1.trans (b2.mono b1.size)).mono BB.out.size)⟩
theorem refuses_law (a0:Option Addr) (k cap:Nat) (Z Z1:Nat→Int) (w:World) (L:Lies w w.heap.size a0 (zs Z (k*10))) (hm:k≤9223372036854775807) :
  Calls Tryz.prog 4 #[.slice a0 k cap,.agg (zs Z1 10).toArray] w fun e w'=>e=.returned (.bool true)∧Below w.heap.size w w':=by
 have hz:(zs Z1 10).toArray=#[.int .i64 (Z1 0),.int .i64 (Z1 1),.int .i64 (Z1 2),.int .i64 (Z1 3),.int .i64 (Z1 4),.int .i64 (Z1 5),.int .i64 (Z1 6),.int .i64 (Z1 7),.int .i64 (Z1 8),.int .i64 (Z1 9)]:=rfl
 rw [hz]
 exact refuses_walk a0 k cap Z _ _ _ _ _ _ _ _ _ _ w L hm
end Go.Proofs.YtgdpepoopicabaaGreat.W.C
