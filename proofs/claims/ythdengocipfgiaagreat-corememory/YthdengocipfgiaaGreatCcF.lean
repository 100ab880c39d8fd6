import Derived.Test.YthdengocipfgiaaGreatCcC
import Derived.Test.YthdengocipfgiaaGreatCaP
/- A part of what core's laws stand on. -/
set_option linter.unusedVariables false
set_option linter.unusedSimpArgs false
set_option maxRecDepth 100000
set_option maxHeartbeats 6400000
namespace Go.Proofs.YthdengocipfgiaaGreat.W.C
open Go.RowKit Go.Proofs.YthdengocipfgiaaGreat.W
attribute [local go_sem] Oper.semAt_some
abbrev evO' (k n l z r a m c v p:Int):Obj:=.cells #[.int .i64 k,.int .i64 n,.int .i64 l,.int .i64 z,.int .i64 r,.int .i64 a,.int .i64 m,.int .i64 c,.int .i64 v,.int .i64 p] 29
theorem c_isFunc (
         k n l z r a m c v p:Int) (w:World) :
  Calls Tryz.prog 76 #[.agg #[.int .i64 k,.int .i64 n,.int .i64 l,.int .i64 z,.int .i64 r,.int .i64 a,.int .i64 m,.int .i64 c,.int .i64 v,.int .i64 p]] w fun e w'=>e=.returned (.bool (isFn ⟨k,n,l,z,r,a,m,c,v,p⟩))∧Below w.heap.size w w':=by
 have hb0:Below w.heap.size w (w.alloc (evO' k n l z r a m c v p)):=(Below.refl _ _).alloc (Nat.le_refl _) _;have hrow:=heap_alloc_new w (evO' k n l z r a m c v p);have y1:=cell_of_row _ _ 1 _ _ _ hrow;have y5:=cell_of_row _ _ 5 _ _ _ hrow;have y6:=cell_of_row _ _ 6 _ _ _ hrow;have y7:=cell_of_row _ _ 7 _ _ _ hrow;have y8:=cell_of_row _ _ 8 _ _ _ hrow;have y9:=cell_of_row _ _ 9 _ _ _ hrow;have e:isFn ⟨k,n,l,z,r,a,m,c,v,p⟩=(decide (n<64) && decide (a<16) && decide (v≤1000) && decide (p≤1000) && decide (1≤m) && decide (m≤4096) && decide (1≤c) && decide (c≤1000)):=rfl;rw [e];clear e hrow
 by_cases h1:n<64
 ·have d1:decide (n<64)=true:=decide_eq_true h1
  by_cases h2:a<16
  ·have d2:decide (a<16)=true:=decide_eq_true h2
   by_cases h3:v≤1000
   ·have d3:decide (v≤1000)=true:=decide_eq_true h3
    by_cases h4:p≤1000
    ·have d4:decide (p≤1000)=true:=decide_eq_true h4
     by_cases h5:1≤m
     ·have d5:decide (1≤m)=true:=decide_eq_true h5
      have d5':decide (m ≥ 1)=true:=d5
      by_cases h6:m≤4096
      ·have d6:decide (m≤4096)=true:=decide_eq_true h6
       by_cases h7:1≤c
       ·have d7:decide (1≤c)=true:=decide_eq_true h7
        have d7':decide (c ≥ 1)=true:=d7
        by_cases h8:c≤1000
        ·have d8:decide (c≤1000)=true:=decide_eq_true h8
         rw [d1,d2,d3,d4,d5,d6,d7,d8];clear h1 h2 h3 h4 h5 h6 h7 h8
         go_enter Tryz.func76,Tryz.ntmps76
         go_wp2
         go_ret
         exact ⟨rfl,hb0⟩
        ·have d8:decide (c≤1000)=false:=decide_eq_false h8
         rw [d1,d2,d3,d4,d5,d6,d7,d8];clear h1 h2 h3 h4 h5 h6 h7 h8
         go_enter Tryz.func76,Tryz.ntmps76
         go_wp2
         go_ret
         exact ⟨rfl,hb0⟩
       ·have d7:decide (1≤c)=false:=decide_eq_false h7
        have d7':decide (c ≥ 1)=false:=d7;rw [d1,d2,d3,d4,d5,d6,d7];clear h1 h2 h3 h4 h5 h6 h7
        go_enter Tryz.func76,Tryz.ntmps76
        go_wp2
        go_ret
        exact ⟨rfl,hb0⟩
      ·have d6:decide (m≤4096)=false:=decide_eq_false h6
       rw [d1,d2,d3,d4,d5,d6];clear h1 h2 h3 h4 h5 h6
       go_enter Tryz.func76,Tryz.ntmps76
       go_wp2
       go_ret
       exact ⟨rfl,hb0⟩
     ·have d5:decide (1≤m)=false:=decide_eq_false h5
      have d5':decide (m ≥ 1)=false:=d5;rw [d1,d2,d3,d4,d5];clear h1 h2 h3 h4 h5
      go_enter Tryz.func76,Tryz.ntmps76
      go_wp2
      go_ret
      exact ⟨rfl,hb0⟩
    ·have d4:decide (p≤1000)=false:=decide_eq_false h4
     rw [d1,d2,d3,d4];clear h1 h2 h3 h4
     go_enter Tryz.func76,Tryz.ntmps76
     go_wp2
     go_ret
     exact ⟨rfl,hb0⟩
   ·have d3:decide (v≤1000)=false:=decide_eq_false h3
    rw [d1,d2,d3];clear h1 h2 h3
    go_enter Tryz.func76,Tryz.ntmps76
    go_wp2
    go_ret
    exact ⟨rfl,hb0⟩
  ·have d2:decide (a<16)=false:=decide_eq_false h2
   rw [d1,d2];clear h1 h2
   go_enter Tryz.func76,Tryz.ntmps76
   go_wp2
   go_ret
   exact ⟨rfl,hb0⟩
 ·have d1:decide (n<64)=false:=decide_eq_false h1
  rw [d1];clear h1
  go_enter Tryz.func76,Tryz.ntmps76
  go_wp2
  go_ret
  exact ⟨rfl,hb0⟩
theorem c_newFunction (x a m:Int) (w:World) :
  Calls Tryz.prog 78 #[.int .i64 x,.int .i64 a,.int .i64 m] w fun e w'=>∃ fb fh fr fp fl,e=.returned (ptr fb)∧NewF w x a m fb fh fr fp fl w':=by
 have hmm:=@run_makeMap Tryz.prog
 go_enter Tryz.func78,Tryz.ntmps78
 go_wp2_with fail
 refine (histo_new _).mono ?_;rintro e w1 ⟨rfl,hh,hb1⟩;have HH:=Lib.hid hh;have HB1:=Lib.hid hb1;clear hh hb1;go_wp2_with fail
 refine (ring_new _).mono ?_;rintro e w2 ⟨rfl,hr,hb2⟩;have HR:=Lib.hid hr;have HB2:=Lib.hid hb2;clear hr hb2;go_wp2_with fail
 go_ret
 have l1:=lt_of_row HH.out.2;have l2:w1.heap.size<w2.heap.size:=by obtain ⟨zs,_,q⟩:=HR.out;exact lt_of_row q
 have s1:=HB1.out.size;have s2:=HB2.out.size;obtain ⟨_,_,hC,hbl⟩:=three_new w2 (.map #[] 0) (.map #[] 0) (.cells #[.int .i64 x,.int .i64 a,.int .i64 m,.int .i64 0,.int .i64 0,.int .i64 0,.int .i64 (-1),.int .i64 0,ptr w.heap.size,ptr w1.heap.size,.map (some w2.heap.size),.map (some (w2.heap.size+1))] 146) rfl;have m1:Mp Tryz.prog 3 (w2.alloc (.map #[] 0)) w2.heap.size (fun _=>none) 0:=Mp.made _ _ _
 have m2:Mp Tryz.prog 3 ((w2.alloc (.map #[] 0)).alloc (.map #[] 0)) (w2.heap.size+1) (fun _=>none) 0:=by
  have:=Mp.made Tryz.prog 3 (w2.alloc (.map #[] 0));rw [World.size_alloc] at this;exact this
 have k1:=fun o=>((Only.refl (w2.alloc (.map #[] 0)) (fun _=>False)).alloc (.map #[] 0)).alloc o;have k2:=fun o=>(Only.refl ((w2.alloc (.map #[] 0)).alloc (.map #[] 0)) (fun _=>False)).alloc o;refine ⟨w2.heap.size+2,w.heap.size,w1.heap.size,w2.heap.size,w2.heap.size+1,rfl,⟨by omega,by omega,hC,?_,?_,m1.kept (k1 _) (fun q=>q),m2.kept (k2 _) (fun q=>q),?_⟩⟩
 ·exact Hs.kept (Hs.kept HH.out (Only.of_below (S:=fun _=>False) HB2.out) (fun q=>q)) (Only.of_below (S:=fun _=>False) hbl) (fun q=>q)
 ·exact Rg.kept HR.out (Only.of_below (S:=fun _=>False) hbl) (fun q=>q)
 ·exact (HB1.out.trans (HB2.out.mono s1)).trans (hbl.mono (by omega))
theorem func_no {s:St} {e:Ev} {x:Int} (h:funE s e=x) (hx:x≠0):s.func e=(s,x):=by unfold St.func;rw [if_neg (by rw [h];exact hx),h]
theorem func_yes {s:St} {e:Ev} (h:funE s e=0):s.func e=((({ s with F:=funF s.A s.F e.n e.a e.v }:St).setG e.n { (s.fu.a e.n).getD (Fu.new e.a e.m) with cost:=e.c,keep:=e.p }).keep e.n,0):=by unfold St.func;rw [if_pos h]
theorem funE_1 {s:St} {e:Ev} (h:isFn e=false):funE s e=1:=by unfold funE;rw [if_pos h]
theorem funE_2 {s:St} {e:Ev} (h:isFn e=true) (h2:s.tk.a e.a=none):funE s e=2:=by unfold funE;rw [if_neg (by rw [h];simp),h2];rfl
theorem funE_3 {s:St} {e:Ev} {g:Fu} {t:Nat×Nat×Nat} (h:isFn e=true) (h2:s.tk.a e.a=some t) (h3:s.fu.a e.n=some g) (h4:g.acc≠e.a∨g.mem≠e.m):funE s e=3:=by
 unfold funE;rw [if_neg (by rw [h];simp),h2,if_neg (by simp),if_pos ⟨by rw [h3];rfl,by rw [St.G_of h3];exact h4⟩]
theorem funE_g {s:St} {e:Ev} {t:Nat×Nat×Nat} (h:isFn e=true) (h2:s.tk.a e.a=some t) (h3:¬ ((s.fu.a e.n).isSome=true∧((s.G e.n).acc≠e.a∨(s.G e.n).mem≠e.m))):funE s e=if 0<e.v∧e.v<e.p then 4 else (funC s.A s.F e.n e.a e.v:Int):=by
 unfold funE;rw [if_neg (by rw [h];simp),h2,if_neg (by simp),if_neg h3]
theorem isFn_is {e:Ev} (h:isFn e=true):e.n<64∧e.a<16∧e.v≤1000∧e.p≤1000∧1≤e.m∧e.m≤4096∧1≤e.c∧e.c≤1000:=by
 unfold isFn at h;simp only [Bool.and_eq_true,decide_eq_true_eq] at h;obtain ⟨⟨⟨⟨⟨⟨⟨f1,f2⟩,f3⟩,f4⟩,f5⟩,f6⟩,f7⟩,f8⟩:=h;exact ⟨f1,f2,f3,f4,f5,f6,f7,f8⟩
theorem Inv.func1 {K e:Nat} {s:St} (h:Inv K e s) {ev:Ev} (hp:0≤ev.n∧0≤ev.a∧0≤ev.p) (hf:isFn ev=true) (ht:(s.tk.a ev.a).isSome=true) (F:Int→Option Fn) :
  Inv K e (({ s with F:=F }:St).setG ev.n { (s.fu.a ev.n).getD (Fu.new ev.a ev.m) with cost:=ev.c,keep:=ev.p }):=by
 obtain ⟨f1,f2,f3,f4,f5,f6,f7,f8⟩:=isFn_is hf;have hnow:=h.now;have h1:Inv K e ({ s with F:=F }:St):={ h with }
 cases q:s.fu.a ev.n with
 | none =>
  have e0:(none:Option Fu).getD (Fu.new ev.a ev.m)=Fu.new ev.a ev.m:=rfl;rw [e0];exact h1.newG (f:=ev.n) (g:={ Fu.new ev.a ev.m with cost:=ev.c,keep:=ev.p }) q ⟨hp.1,f1⟩ rfl rfl ⟨hp.2.1,f2,f5,f6,by show 0≤ev.c;omega,f8,hp.2.2,f4,Int.le_refl 0,by show (0:Int)≤1000;omega,Int.le_refl (-1),by show (-1:Int)≤s.now;omega,Int.le_refl 0,by show (0:Int)≤4398046511104;omega,ht⟩
 | some g =>
  have e0:(some g).getD (Fu.new ev.a ev.m)=g:=rfl;rw [e0];obtain ⟨_,_,a1,a2,_,_,a3,a4,a5,a6,a7,a8,a9,a10,a11,a12,a13⟩:=h.fu _ g q;exact h1.setG (f:=ev.n) (g:=g) (g':={ g with cost:=ev.c,keep:=ev.p }) q rfl rfl rfl ⟨a1,a2,by show 0≤ev.c;omega,f8,hp.2.2,f4,a7,a8,a9,a10,a11,a12,a13⟩
theorem Cor.fbRow {w:World} {own:Nat→Option Tag} {y:Lay} {s:St} (h:Cor w own y s) {f:Int} {g:Fu} (e:s.fu.a f=some g):w.heap[y.fb f]?=some (.cells (frow y f g).toArray 146 (0,0)):=((h.ob (.fb f)) g e).2
theorem newF_drew {w w':World} {x a m:Int} {fb fh fr fp fl:Nat} (h:NewF w x a m fb fh fr fp fl w'):NewF w x a m fb fh fr fp fl w'.drew :=
 ⟨h.ge,h.ne,h.row,h.hs,h.rg,h.mp.kept ((Only.refl w' (fun _=>False)).drewN 1) (fun q=>q),h.ml.kept ((Only.refl w' (fun _=>False)).drewN 1) (fun q=>q),below_drewN h.bel 1⟩
theorem c_setFunc {w:World} {own:Nat→Option Tag} {y:Lay} {s:St} (h:Cor w own y s) {K:Nat} (hI:Inv (K+1000) 0 s) (k n l z r a m c v p:Int) (hp:0≤n∧0≤a∧0≤p) :
    Calls Tryz.prog 46 #[ptr y.c,.agg #[.int .i64 k,.int .i64 n,.int .i64 l,.int .i64 z,.int .i64 r,.int .i64 a,.int .i64 m,.int .i64 c,.int .i64 v,.int .i64 p]] w fun e w'=>e=.returned (.int .i64 (s.func ⟨k,n,l,z,r,a,m,c,v,p⟩).2)∧Ty w own y (s.func ⟨k,n,l,z,r,a,m,c,v,p⟩).1 w':=by
  have hb0:Below w.heap.size w (w.alloc (evO' k n l z r a m c v p)):=(Below.refl _ _).alloc (Nat.le_refl _) _;have hrow0:=heap_alloc_new w (evO' k n l z r a m c v p);have hf0:=h.fresh (Nat.le_refl w.heap.size)
  have hpn:s.fu.n<maxLen:=by
                                   have:=(hI.bd (by omega)).fuN;have:(1073741824:Nat)<maxLen:=by decide
                                   omega
  have HPN:=Lib.hid hpn;have HI:=Lib.hid hI;have HP:=Lib.hid hp;clear hpn hI hp;obtain ⟨bi,hbi⟩:∃ bi,isFn ⟨k,n,l,z,r,a,m,c,v,p⟩=bi:=⟨_,rfl⟩;have KI:=Lib.hid (fun W=>by have:=c_isFunc k n l z r a m c v p W;rw [hbi] at this;exact this)
  go_enter Tryz.func46,Tryz.ntmps46
  go_upto_region 1 with (fail)
  have h1:=h.below hb0;have HN1:=Lib.hid (Nx.below own hb0);obtain ⟨Hb,hHb⟩:∃ Hb,w.heap.size=Hb:=⟨_,rfl⟩;rw [hHb] at hrow0 hf0;rw [hHb];have HR1:=Lib.hid hrow0;have HF1:=Lib.hid hf0;clear hrow0 hf0 hb0 hHb h;generalize w.alloc (evO' k n l z r a m c v p)=w1 at h1 HN1 HR1 ⊢;have y0:w1.cell? ⟨Hb,0,none⟩=some (.int .i64 k):=cell_of_row w1 _ 0 _ _ _ HR1.out;have y1:w1.cell? ⟨Hb,1,none⟩=some (.int .i64 n):=cell_of_row w1 _ 1 _ _ _ HR1.out;have y2:w1.cell? ⟨Hb,2,none⟩=some (.int .i64 l):=cell_of_row w1 _ 2 _ _ _ HR1.out;have y3:w1.cell? ⟨Hb,3,none⟩=some (.int .i64 z):=cell_of_row w1 _ 3 _ _ _ HR1.out;have y4:w1.cell? ⟨Hb,4,none⟩=some (.int .i64 r):=cell_of_row w1 _ 4 _ _ _ HR1.out;have y5:w1.cell? ⟨Hb,5,none⟩=some (.int .i64 a):=cell_of_row w1 _ 5 _ _ _ HR1.out;have y6:w1.cell? ⟨Hb,6,none⟩=some (.int .i64 m):=cell_of_row w1 _ 6 _ _ _ HR1.out;have y7:w1.cell? ⟨Hb,7,none⟩=some (.int .i64 c):=cell_of_row w1 _ 7 _ _ _ HR1.out;have y8:w1.cell? ⟨Hb,8,none⟩=some (.int .i64 v):=cell_of_row w1 _ 8 _ _ _ HR1.out;have y9:w1.cell? ⟨Hb,9,none⟩=some (.int .i64 p):=cell_of_row w1 _ 9 _ _ _ HR1.out;go_wp2_with fail
  with_reducible refine (KI.out _).mono ?_
  rintro e w2 ⟨rfl,hb2⟩;have h2:=h1.below hb2;have HR2:=Lib.hid ((Only.of_below (S:=fun _=>False) hb2).blk (fun q=>q) HR1.out);have HN2:=Lib.hid (HN1.out.trans (Nx.below own hb2));clear y0 y1 y2 y3 y4 y5 y6 y7 y8 y9 hb2 h1 HN1 HR1 KI
  cases bi with
  | false =>
    have HE:=Lib.hid (func_no (funE_1 (s:=s) hbi) (by decide))
    clear hbi;go_wp2_with fail
    go_ret
    rw [HE.out];exact ⟨rfl,Ty.of ⟨own,h2,HN2.out⟩⟩
  | true =>
    obtain ⟨f1,f2,f3,f4,f5,f6,f7,f8⟩:=isFn_is hbi;have HFB:=Lib.hid (And.intro f1 (And.intro f2 hbi));have f1:n<64:=f1;have f2:a<16:=f2;have hp:=HP.out;have hwa:(KL a).wf=true:=wfK (by omega) (by omega)
    have hwn:(KL n).wf=true:=wfK (by omega) (by omega)
    have HW:=Lib.hid (And.intro hwa hwn);clear f1 f2 f3 f4 f5 f6 f7 f8 hp;have y1:∀ j,(w2.drewN j).cell? ⟨Hb,1,none⟩=some (.int .i64 n):=fun j=>cell_of_row w2 _ 1 _ _ _ HR2.out;have y5:∀ j,(w2.drewN j).cell? ⟨Hb,5,none⟩=some (.int .i64 a):=fun j=>cell_of_row w2 _ 5 _ _ _ HR2.out;have y5':w2.cell? ⟨Hb,5,none⟩=some (.int .i64 a):=y5 0;have q3:=h2.c3
    cases hk:s.tk.a a with
    | none =>
      have HE:=Lib.hid (func_no (funE_2 (s:=s) hbi hk) (by decide))
      have lk:=h2.lbN hk hwa;have lk1:=fun j=>(h2.drewN j).lbN hk hwa;have lk2:=h2.drew.lbN hk hwa;clear hbi hk hwa hwn;go_wp2_with fail
      go_quiet (fail)
      go_wp2_with fail
      go_ret
      rw [HE.out];exact ⟨rfl,Ty.of ⟨own,h2.drewN _,HN2.out.trans ⟨(Only.refl _ _).drewN _,fun _ q=>Or.inl q⟩⟩⟩
    | some tv =>
      have lk:=h2.lbK hk hwa;have lk1:=fun j=>(h2.drewN j).lbK hk hwa;have lk2:=h2.drew.lbK hk hwa;have HK:=Lib.hid hk;go_wp2_with fail
      go_quiet (fail)
      have h3:=h2.drewN nq;have HR3:Hid ((w2.drewN nq).heap[Hb]?=_):=HR2;have HN3:=Lib.hid (HN2.out.trans (⟨(Only.refl _ _).drewN nq,fun _ q=>Or.inl q⟩:Nx w2 own (w2.drewN nq) own));clear lk lk1 lk2 y1 y5 y5' q3 h2 HR2 HN2;generalize w2.drewN nq=w3 at h3 HR3 HN3 ⊢;have y1:w3.cell? ⟨Hb,1,none⟩=some (.int .i64 n):=cell_of_row w3 _ 1 _ _ _ HR3.out;have q4:=h3.c4
      cases hf:s.fu.a n with
      | none =>
        have HG:=Lib.hid (funE_g (s:=s) (e:=⟨k,n,l,z,r,a,m,c,v,p⟩) hbi hk (fun q=>by have q1:=q.1;rw [show s.fu.a (⟨k,n,l,z,r,a,m,c,v,p⟩:Ev).n=none from hf] at q1;cases q1))
        have HFU:=Lib.hid hf;have lk:=h3.lfN hf hwn;have lk1:=fun j=>(h3.drewN j).lfN hf hwn;have lk2:=h3.drew.lfN hf hwn;clear hbi hk hwa hwn hf;go_wp2_with fail
        go_quiet (fail)
        have h4:=h3.drewN nq;have HR4:Hid ((w3.drewN nq).heap[Hb]?=_):=HR3;have HN4:=Lib.hid (HN3.out.trans (⟨(Only.refl _ _).drewN nq,fun _ q=>Or.inl q⟩:Nx w3 own (w3.drewN nq) own));clear lk lk1 lk2 y1 q4 h3 HR3 HN3;generalize w3.drewN nq=w4 at h4 HR4 HN4 ⊢;go_wp2_with fail
        go_quiet (fail)
        have h5:=h4.drewN nq;have HR5:Hid ((w4.drewN nq).heap[Hb]?=_):=HR4;have HN5:=Lib.hid (HN4.out.trans (⟨(Only.refl _ _).drewN nq,fun _ q=>Or.inl q⟩:Nx w4 own (w4.drewN nq) own));clear h4 HR4 HN4;generalize w4.drewN nq=w5 at h5 HR5 HN5 ⊢
        by_cases hv0:0<v
        · have dv:decide (v > 0)=true:=decide_eq_true hv0
          by_cases hvp:v<p
          · have dp:decide (p > v)=true:=decide_eq_true hvp
            have HE:=Lib.hid (func_no (HG.out.trans (if_pos ⟨hv0,hvp⟩)) (by decide))
            clear hv0 hvp;have y8:w5.cell? ⟨Hb,8,none⟩=some (.int .i64 v):=cell_of_row w5 _ 8 _ _ _ HR5.out;have y9:w5.cell? ⟨Hb,9,none⟩=some (.int .i64 p):=cell_of_row w5 _ 9 _ _ _ HR5.out;go_wp2_with fail
            go_ret
            rw [HE.out];exact ⟨rfl,Ty.of ⟨own,h5,HN5.out⟩⟩
          · have dp:decide (p > v)=false:=by simp;omega
            have HGG:=Lib.hid (HG.out.trans (if_neg (fun q=>hvp q.2)));clear hv0 hvp;have y1:w5.cell? ⟨Hb,1,none⟩=some (.int .i64 n):=cell_of_row w5 _ 1 _ _ _ HR5.out;have y5:w5.cell? ⟨Hb,5,none⟩=some (.int .i64 a):=cell_of_row w5 _ 5 _ _ _ HR5.out;have y8:w5.cell? ⟨Hb,8,none⟩=some (.int .i64 v):=cell_of_row w5 _ 8 _ _ _ HR5.out;have y9:w5.cell? ⟨Hb,9,none⟩=some (.int .i64 p):=cell_of_row w5 _ 9 _ _ _ HR5.out;have q2:=h5.c2;go_wp2_with fail
            go_still_tail 10,(by kernel_rfl)
            change wpList _ _ _ _ _ w5.drew;have ka:=k_lfun h5.drew n a v;obtain ⟨vv,hvv⟩:∃ vv:Int,(funC s.A s.F n a v:Int)=vv:=⟨_,rfl⟩;rw [hvv] at ka;have HGV:Hid (funE s ⟨k,n,l,z,r,a,m,c,v,p⟩=vv):=Lib.hid (by rw [HGG.out];exact hvv)
            have HVV:=Lib.hid hvv;have KA:=Lib.hid ka;have HR5d:Hid (w5.drew.heap[Hb]?=_):=HR5;have HN5d:=Lib.hid HN5.out.drew;clear y1 y5 y8 y9 q2 h5 ka HR5 HN5 hvv HGG HG;go_wp2_with fail
            with_reducible refine KA.out.mono ?_
            rintro e w6 ⟨rfl,o6,h6,n6⟩;have HR6:=Lib.hid (n6.blk HF1.out HR5d.out);have HF6:=Lib.hid (n6.none HF1.out (lt_of_row HR5d.out));have HN6:=Lib.hid (HN5d.out.trans n6);clear KA n6 HR5d HN5d HF1
            by_cases hz:vv=0
            · subst hz
              have HE:=Lib.hid (func_yes HGV.out);obtain ⟨s6,hs6⟩:∃ s6:St,({ s with A:=s.A,F:=funF s.A s.F n a v }:St)=s6:=⟨_,rfl⟩;have HI6:=Lib.hid (HI.out.func1 (ev:=⟨k,n,l,z,r,a,m,c,v,p⟩) HP.out HFB.out.2.2 (by show (s.tk.a a).isSome=true;rw [HK.out];rfl) (funF s.A s.F n a v))
              have HS6:=Lib.hid hs6;rw [hs6] at h6;have hfu6:s6.fu=s.fu:=by rw [←hs6]
              have HFU6:=Lib.hid hfu6;clear hs6 hfu6 HVV HGV;have y1:w6.cell? ⟨Hb,1,none⟩=some (.int .i64 n):=cell_of_row w6 _ 1 _ _ _ HR6.out;have y5:w6.cell? ⟨Hb,5,none⟩=some (.int .i64 a):=cell_of_row w6 _ 5 _ _ _ HR6.out;have y6:w6.cell? ⟨Hb,6,none⟩=some (.int .i64 m):=cell_of_row w6 _ 6 _ _ _ HR6.out;go_wp2_with fail
              with_reducible refine (c_newFunction n a m w6).mono ?_
              rintro e w7 ⟨fb,fh,fr,fp,fl,rfl,hN⟩;have hc7:=h6.below hN.bel;have HR7:=Lib.hid ((Only.of_below (S:=fun _=>False) hN.bel).blk (fun q=>q) HR6.out);have HNF:=Lib.hid hN;have H6:=Lib.hid h6;clear y1 y5 y6 hN h6;have y1:w7.cell? ⟨Hb,1,none⟩=some (.int .i64 n):=cell_of_row w7 _ 1 _ _ _ HR7.out;have q4:=hc7.c4;go_wp2_with fail
              go_still_tail 7,(by kernel_rfl)
              change wpList _ _ _ _ _ w7.drew;have hmf:MpT w7.drew y.mf s6.fu _:=hc7.drew.mfT;have hbd:Below w6.heap.size w6 w7.drew:=below_drewN HNF.out.bel 1;refine wpList_mp_set rfl (.tmp 90) (.tmp 92) (.tmp 93) 54 rfl 3 114 Tryz.underlying3 Tryz.underlying54 _ _ _ rfl hmf (by rw [HFU6.out];exact HPN.out) n rfl HW.out.2 (ptr fb) rfl _ rfl ?_
              intro w8 m8 g8';have hNd:NewF w6 n a m fb fh fr fp fl w7.drew:=newF_drew HNF.out;obtain ⟨o8,h8,n8⟩:=Cor.newF H6.out hNd (MpT.newAt m8 (fun j u hj=>by rw [show (y.withF n fb fh fr fp fl).fb j=y.fb j from if_neg hj]) (by rw [show (y.withF n fb fh fr fp fl).fb n=fb from if_pos rfl])) g8'
              have HN8:=Lib.hid (HN6.out.trans n8);have HR8:=Lib.hid (n8.blk HF6.out HR6.out);have hyb:(y.withF n fb fh fr fp fl).fb n=fb:=if_pos rfl;obtain ⟨yy,hyy⟩:∃ yy,y.withF n fb fh fr fp fl=yy:=⟨_,rfl⟩;have hyc:yy.c=y.c∧yy.an=y.an:=by rw [←hyy];exact ⟨rfl,rfl⟩
              rw [hyy] at h8 hyb;have HYC:=Lib.hid hyc;rw [←hyb];have eg8:(s6.setG n (Fu.new a m)).fu.a n=some (Fu.new a m):=setG_at _ _ _;clear y1 q4 hc7 hmf hbd m8 g8' hNd n8 HNF H6 HN6 HR6 HR7 hyy hyb hyc;have hr:=Cor.fbRow h8 eg8;have r2:(w8.setCell ⟨yy.fb n,3,none⟩ (.int .i64 c)).heap[yy.fb n]?=some (.cells (frow yy n { Fu.new a m with cost:=c }).toArray 146 (0,0)):=set_rowL (cs:=frow yy n (Fu.new a m)) hr 3 (.int .i64 c)
              have r3:((w8.setCell ⟨yy.fb n,3,none⟩ (.int .i64 c)).setCell ⟨yy.fb n,4,none⟩ (.int .i64 p)).heap[yy.fb n]?=some (.cells (frow yy n { Fu.new a m with cost:=c,keep:=p }).toArray 146 (0,0)):=set_rowL (cs:=frow yy n { Fu.new a m with cost:=c }) r2 4 (.int .i64 p)
              have s0:=frozen_of_row w8 (yy.fb n) 3 _ _ hr;have s1:=frozen_of_row w8 (yy.fb n) 4 _ _ hr;have u0:w8.cell? ⟨yy.fb n,3,none⟩=some (.int .i64 (Fu.new a m).cost):=cellL hr 3 _ rfl;have u1:w8.cell? ⟨yy.fb n,4,none⟩=some (.int .i64 (Fu.new a m).keep):=cellL hr 4 _ rfl;have HA2:=Lib.hid r2;have HA3:=Lib.hid r3;have y7:w8.cell? ⟨Hb,7,none⟩=some (.int .i64 c):=cell_of_row w8 _ 7 _ _ _ HR8.out;have y9:w8.cell? ⟨Hb,9,none⟩=some (.int .i64 p):=cell_of_row w8 _ 9 _ _ _ HR8.out;clear hr r2 r3;go_wp2_with fail
              go_region
              obtain ⟨h10,n10⟩:=Cor.fb h8 eg8 { Fu.new a m with cost:=c } rfl rfl rfl rfl rfl HA2.out (grown_set w8 0 (yy.fb n) 3 (.int .i64 c));obtain ⟨h11,n11⟩:=Cor.fb h10 (setG_at _ _ _) { Fu.new a m with cost:=c,keep:=p } rfl rfl rfl rfl rfl HA3.out (grown_set (w8.setCell ⟨yy.fb n,3,none⟩ (.int .i64 c)) 0 (yy.fb n) 4 (.int .i64 p));have HN11:=Lib.hid (HN8.out.trans (n10.trans n11)).drew;rw [setG_setG,setG_setG] at h11;have h11:=h11.drew;clear h10 n10 n11 y7 y9 s0 s1 u0 u1 HA2 HA3 h8 HN8 HR8;generalize ((w8.setCell ⟨yy.fb n,3,none⟩ (.int .i64 c)).setCell ⟨yy.fb n,4,none⟩ (.int .i64 p)).drew=w11 at h11 HN11 ⊢
              have hs11:s6.setG n { Fu.new a m with cost:=c,keep:=p }=(({ s with F:=funF s.A s.F n a v }:St).setG n { (s.fu.a n).getD (Fu.new a m) with cost:=c,keep:=p }):=by
                rw [←HS6.out,HFU.out];rfl
              have KK:=Lib.hid (c_keep (y:=yy) h11 (setG_at _ _ _) (by rw [hs11];exact HI6.out))
              rw [HYC.out.1] at KK;have HS11:=Lib.hid hs11;clear h11 hs11;go_wp2_with fail
              with_reducible refine KK.out.mono ?_
              rintro e w12 ⟨rfl,b12,o12,h12,n12⟩;go_wp2_with fail
              go_ret
              rw [HE.out];have h13:=h12;rw [HS11.out] at h13;exact ⟨rfl,yy.at_ b12,HYC.out.1,HYC.out.2,o12,h13,HN11.out.trans n12⟩
            · have d5:(vv == 0)=false:=by simp [hz]
              have hA:funF s.A s.F n a v=s.F:=by have:=HVV.out;unfold funF;rw [if_neg (by omega)]
              rw [hA] at h6;have HE:=Lib.hid (func_no HGV.out hz);clear hz hA HGV HVV;go_wp2_with fail
              go_ret
              rw [HE.out];exact ⟨rfl,Ty.of ⟨o6,h6,HN6.out⟩⟩
        · have dv:decide (v > 0)=false:=by simp;omega
          have HGG:=Lib.hid (HG.out.trans (if_neg (fun q=>hv0 q.1)));clear hv0;have y1:w5.cell? ⟨Hb,1,none⟩=some (.int .i64 n):=cell_of_row w5 _ 1 _ _ _ HR5.out;have y5:w5.cell? ⟨Hb,5,none⟩=some (.int .i64 a):=cell_of_row w5 _ 5 _ _ _ HR5.out;have y8:w5.cell? ⟨Hb,8,none⟩=some (.int .i64 v):=cell_of_row w5 _ 8 _ _ _ HR5.out;have y9:w5.cell? ⟨Hb,9,none⟩=some (.int .i64 p):=cell_of_row w5 _ 9 _ _ _ HR5.out;have q2:=h5.c2;go_wp2_with fail
          go_still_tail 10,(by kernel_rfl)
          change wpList _ _ _ _ _ w5.drew;have ka:=k_lfun h5.drew n a v;obtain ⟨vv,hvv⟩:∃ vv:Int,(funC s.A s.F n a v:Int)=vv:=⟨_,rfl⟩;rw [hvv] at ka;have HGV:Hid (funE s ⟨k,n,l,z,r,a,m,c,v,p⟩=vv):=Lib.hid (by rw [HGG.out];exact hvv)
          have HVV:=Lib.hid hvv;have KA:=Lib.hid ka;have HR5d:Hid (w5.drew.heap[Hb]?=_):=HR5;have HN5d:=Lib.hid HN5.out.drew;clear y1 y5 y8 y9 q2 h5 ka HR5 HN5 hvv HGG HG;go_wp2_with fail
          with_reducible refine KA.out.mono ?_
          rintro e w6 ⟨rfl,o6,h6,n6⟩;have HR6:=Lib.hid (n6.blk HF1.out HR5d.out);have HF6:=Lib.hid (n6.none HF1.out (lt_of_row HR5d.out));have HN6:=Lib.hid (HN5d.out.trans n6);clear KA n6 HR5d HN5d HF1
          by_cases hz:vv=0
          · subst hz
            have HE:=Lib.hid (func_yes HGV.out);obtain ⟨s6,hs6⟩:∃ s6:St,({ s with A:=s.A,F:=funF s.A s.F n a v }:St)=s6:=⟨_,rfl⟩;have HI6:=Lib.hid (HI.out.func1 (ev:=⟨k,n,l,z,r,a,m,c,v,p⟩) HP.out HFB.out.2.2 (by show (s.tk.a a).isSome=true;rw [HK.out];rfl) (funF s.A s.F n a v))
            have HS6:=Lib.hid hs6;rw [hs6] at h6;have hfu6:s6.fu=s.fu:=by rw [←hs6]
            have HFU6:=Lib.hid hfu6;clear hs6 hfu6 HVV HGV;have y1:w6.cell? ⟨Hb,1,none⟩=some (.int .i64 n):=cell_of_row w6 _ 1 _ _ _ HR6.out;have y5:w6.cell? ⟨Hb,5,none⟩=some (.int .i64 a):=cell_of_row w6 _ 5 _ _ _ HR6.out;have y6:w6.cell? ⟨Hb,6,none⟩=some (.int .i64 m):=cell_of_row w6 _ 6 _ _ _ HR6.out;go_wp2_with fail
            with_reducible refine (c_newFunction n a m w6).mono ?_
            rintro e w7 ⟨fb,fh,fr,fp,fl,rfl,hN⟩;have hc7:=h6.below hN.bel;have HR7:=Lib.hid ((Only.of_below (S:=fun _=>False) hN.bel).blk (fun q=>q) HR6.out);have HNF:=Lib.hid hN;have H6:=Lib.hid h6;clear y1 y5 y6 hN h6;have y1:w7.cell? ⟨Hb,1,none⟩=some (.int .i64 n):=cell_of_row w7 _ 1 _ _ _ HR7.out;have q4:=hc7.c4;go_wp2_with fail
            go_still_tail 7,(by kernel_rfl)
            change wpList _ _ _ _ _ w7.drew;have hmf:MpT w7.drew y.mf s6.fu _:=hc7.drew.mfT;have hbd:Below w6.heap.size w6 w7.drew:=below_drewN HNF.out.bel 1;refine wpList_mp_set rfl (.tmp 90) (.tmp 92) (.tmp 93) 54 rfl 3 114 Tryz.underlying3 Tryz.underlying54 _ _ _ rfl hmf (by rw [HFU6.out];exact HPN.out) n rfl HW.out.2 (ptr fb) rfl _ rfl ?_
            intro w8 m8 g8';have hNd:NewF w6 n a m fb fh fr fp fl w7.drew:=newF_drew HNF.out;obtain ⟨o8,h8,n8⟩:=Cor.newF H6.out hNd (MpT.newAt m8 (fun j u hj=>by rw [show (y.withF n fb fh fr fp fl).fb j=y.fb j from if_neg hj]) (by rw [show (y.withF n fb fh fr fp fl).fb n=fb from if_pos rfl])) g8'
            have HN8:=Lib.hid (HN6.out.trans n8);have HR8:=Lib.hid (n8.blk HF6.out HR6.out);have hyb:(y.withF n fb fh fr fp fl).fb n=fb:=if_pos rfl;obtain ⟨yy,hyy⟩:∃ yy,y.withF n fb fh fr fp fl=yy:=⟨_,rfl⟩;have hyc:yy.c=y.c∧yy.an=y.an:=by rw [←hyy];exact ⟨rfl,rfl⟩
            rw [hyy] at h8 hyb;have HYC:=Lib.hid hyc;rw [←hyb];have eg8:(s6.setG n (Fu.new a m)).fu.a n=some (Fu.new a m):=setG_at _ _ _;clear y1 q4 hc7 hmf hbd m8 g8' hNd n8 HNF H6 HN6 HR6 HR7 hyy hyb hyc;have hr:=Cor.fbRow h8 eg8;have r2:(w8.setCell ⟨yy.fb n,3,none⟩ (.int .i64 c)).heap[yy.fb n]?=some (.cells (frow yy n { Fu.new a m with cost:=c }).toArray 146 (0,0)):=set_rowL (cs:=frow yy n (Fu.new a m)) hr 3 (.int .i64 c)
            have r3:((w8.setCell ⟨yy.fb n,3,none⟩ (.int .i64 c)).setCell ⟨yy.fb n,4,none⟩ (.int .i64 p)).heap[yy.fb n]?=some (.cells (frow yy n { Fu.new a m with cost:=c,keep:=p }).toArray 146 (0,0)):=set_rowL (cs:=frow yy n { Fu.new a m with cost:=c }) r2 4 (.int .i64 p)
            have s0:=frozen_of_row w8 (yy.fb n) 3 _ _ hr;have s1:=frozen_of_row w8 (yy.fb n) 4 _ _ hr;have u0:w8.cell? ⟨yy.fb n,3,none⟩=some (.int .i64 (Fu.new a m).cost):=cellL hr 3 _ rfl;have u1:w8.cell? ⟨yy.fb n,4,none⟩=some (.int .i64 (Fu.new a m).keep):=cellL hr 4 _ rfl;have HA2:=Lib.hid r2;have HA3:=Lib.hid r3;have y7:w8.cell? ⟨Hb,7,none⟩=some (.int .i64 c):=cell_of_row w8 _ 7 _ _ _ HR8.out;have y9:w8.cell? ⟨Hb,9,none⟩=some (.int .i64 p):=cell_of_row w8 _ 9 _ _ _ HR8.out;clear hr r2 r3;go_wp2_with fail
            go_region
            obtain ⟨h10,n10⟩:=Cor.fb h8 eg8 { Fu.new a m with cost:=c } rfl rfl rfl rfl rfl HA2.out (grown_set w8 0 (yy.fb n) 3 (.int .i64 c));obtain ⟨h11,n11⟩:=Cor.fb h10 (setG_at _ _ _) { Fu.new a m with cost:=c,keep:=p } rfl rfl rfl rfl rfl HA3.out (grown_set (w8.setCell ⟨yy.fb n,3,none⟩ (.int .i64 c)) 0 (yy.fb n) 4 (.int .i64 p));have HN11:=Lib.hid (HN8.out.trans (n10.trans n11)).drew;rw [setG_setG,setG_setG] at h11;have h11:=h11.drew;clear h10 n10 n11 y7 y9 s0 s1 u0 u1 HA2 HA3 h8 HN8 HR8;generalize ((w8.setCell ⟨yy.fb n,3,none⟩ (.int .i64 c)).setCell ⟨yy.fb n,4,none⟩ (.int .i64 p)).drew=w11 at h11 HN11 ⊢
            have hs11:s6.setG n { Fu.new a m with cost:=c,keep:=p }=(({ s with F:=funF s.A s.F n a v }:St).setG n { (s.fu.a n).getD (Fu.new a m) with cost:=c,keep:=p }):=by
              rw [←HS6.out,HFU.out];rfl
            have KK:=Lib.hid (c_keep (y:=yy) h11 (setG_at _ _ _) (by rw [hs11];exact HI6.out))
            rw [HYC.out.1] at KK;have HS11:=Lib.hid hs11;clear h11 hs11;go_wp2_with fail
            with_reducible refine KK.out.mono ?_
            rintro e w12 ⟨rfl,b12,o12,h12,n12⟩;go_wp2_with fail
            go_ret
            rw [HE.out];have h13:=h12;rw [HS11.out] at h13;exact ⟨rfl,yy.at_ b12,HYC.out.1,HYC.out.2,o12,h13,HN11.out.trans n12⟩
          · have d5:(vv == 0)=false:=by simp [hz]
            have hA:funF s.A s.F n a v=s.F:=by have:=HVV.out;unfold funF;rw [if_neg (by omega)]
            rw [hA] at h6;have HE:=Lib.hid (func_no HGV.out hz);clear hz hA HGV HVV;go_wp2_with fail
            go_ret
            rw [HE.out];exact ⟨rfl,Ty.of ⟨o6,h6,HN6.out⟩⟩
      | some g =>
        by_cases hac:g.acc=a∧g.mem=m
        · obtain ⟨hac,hme⟩:=hac
          have HG:=Lib.hid (funE_g (s:=s) (e:=⟨k,n,l,z,r,a,m,c,v,p⟩) hbi hk (fun q=>by have q1:=q.2;rw [St.G_of (show s.fu.a (⟨k,n,l,z,r,a,m,c,v,p⟩:Ev).n=some g from hf)] at q1;rcases q1 with q1 | q1;exact q1 hac;exact q1 hme))
          have HFU:=Lib.hid hf;have lk:=h3.lfK hf hwn;have lk1:=fun j=>(h3.drewN j).lfK hf hwn;have lk2:=h3.drew.lfK hf hwn;clear hbi hk hwa hwn;go_wp2_with fail
          go_quiet (fail)
          have h4:=h3.drewN nq;have HR4:Hid ((w3.drewN nq).heap[Hb]?=_):=HR3;have HN4:=Lib.hid (HN3.out.trans (⟨(Only.refl _ _).drewN nq,fun _ q=>Or.inl q⟩:Nx w3 own (w3.drewN nq) own));clear lk lk1 lk2 y1 q4 h3 HR3 HN3;generalize w3.drewN nq=w4 at h4 HR4 HN4 ⊢;have y5:w4.cell? ⟨Hb,5,none⟩=some (.int .i64 a):=cell_of_row w4 _ 5 _ _ _ HR4.out;have y6:w4.cell? ⟨Hb,6,none⟩=some (.int .i64 m):=cell_of_row w4 _ 6 _ _ _ HR4.out;have q1:w4.cell? ⟨y.fb n,1,none⟩=some (.int .i64 a):=by rw [←hac];exact h4.g1 hf
          have q2:w4.cell? ⟨y.fb n,2,none⟩=some (.int .i64 m):=by rw [←hme];exact h4.g2 hf
          clear hac hme hf;go_wp2_with fail
          go_quiet (fail)
          have h5:=h4.drewN nq;have HR5:Hid ((w4.drewN nq).heap[Hb]?=_):=HR4;have HN5:=Lib.hid (HN4.out.trans (⟨(Only.refl _ _).drewN nq,fun _ q=>Or.inl q⟩:Nx w4 own (w4.drewN nq) own));clear h4 HR4 HN4 y5 y6 q1 q2;generalize w4.drewN nq=w5 at h5 HR5 HN5 ⊢
          by_cases hv0:0<v
          · have dv:decide (v > 0)=true:=decide_eq_true hv0
            by_cases hvp:v<p
            · have dp:decide (p > v)=true:=decide_eq_true hvp
              have HE:=Lib.hid (func_no (HG.out.trans (if_pos ⟨hv0,hvp⟩)) (by decide))
              clear hv0 hvp;have y8:w5.cell? ⟨Hb,8,none⟩=some (.int .i64 v):=cell_of_row w5 _ 8 _ _ _ HR5.out;have y9:w5.cell? ⟨Hb,9,none⟩=some (.int .i64 p):=cell_of_row w5 _ 9 _ _ _ HR5.out;go_wp2_with fail
              go_ret
              rw [HE.out];exact ⟨rfl,Ty.of ⟨own,h5,HN5.out⟩⟩
            · have dp:decide (p > v)=false:=by simp;omega
              have HGG:=Lib.hid (HG.out.trans (if_neg (fun q=>hvp q.2)));clear hv0 hvp;have y1:w5.cell? ⟨Hb,1,none⟩=some (.int .i64 n):=cell_of_row w5 _ 1 _ _ _ HR5.out;have y5:w5.cell? ⟨Hb,5,none⟩=some (.int .i64 a):=cell_of_row w5 _ 5 _ _ _ HR5.out;have y8:w5.cell? ⟨Hb,8,none⟩=some (.int .i64 v):=cell_of_row w5 _ 8 _ _ _ HR5.out;have y9:w5.cell? ⟨Hb,9,none⟩=some (.int .i64 p):=cell_of_row w5 _ 9 _ _ _ HR5.out;have q2:=h5.c2;go_wp2_with fail
              go_still_tail 10,(by kernel_rfl)
              change wpList _ _ _ _ _ w5.drew;have ka:=k_lfun h5.drew n a v;obtain ⟨vv,hvv⟩:∃ vv:Int,(funC s.A s.F n a v:Int)=vv:=⟨_,rfl⟩;rw [hvv] at ka;have HGV:Hid (funE s ⟨k,n,l,z,r,a,m,c,v,p⟩=vv):=Lib.hid (by rw [HGG.out];exact hvv)
              have HVV:=Lib.hid hvv;have KA:=Lib.hid ka;have HR5d:Hid (w5.drew.heap[Hb]?=_):=HR5;have HN5d:=Lib.hid HN5.out.drew;clear y1 y5 y8 y9 q2 h5 ka HR5 HN5 hvv HGG HG;go_wp2_with fail
              with_reducible refine KA.out.mono ?_
              rintro e w6 ⟨rfl,o6,h6,n6⟩;have HR6:=Lib.hid (n6.blk HF1.out HR5d.out);have HF6:=Lib.hid (n6.none HF1.out (lt_of_row HR5d.out));have HN6:=Lib.hid (HN5d.out.trans n6);clear KA n6 HR5d HN5d HF1
              by_cases hz:vv=0
              · subst hz
                have HE:=Lib.hid (func_yes HGV.out);obtain ⟨s6,hs6⟩:∃ s6:St,({ s with A:=s.A,F:=funF s.A s.F n a v }:St)=s6:=⟨_,rfl⟩;have HI6:=Lib.hid (HI.out.func1 (ev:=⟨k,n,l,z,r,a,m,c,v,p⟩) HP.out HFB.out.2.2 (by show (s.tk.a a).isSome=true;rw [HK.out];rfl) (funF s.A s.F n a v))
                have HS6:=Lib.hid hs6;rw [hs6] at h6;have hfu6:s6.fu=s.fu:=by rw [←hs6]
                have HFU6:=Lib.hid hfu6;clear hs6 hfu6 HVV HGV;have h8:=h6;have HR8:=HR6;have HN8:=HN6;have eg8:s6.fu.a n=some g:=by rw [HFU6.out];exact HFU.out
                clear HFU6 HR6 HN6 h6;have hr:=Cor.fbRow h8 eg8;have r2:(w6.setCell ⟨y.fb n,3,none⟩ (.int .i64 c)).heap[y.fb n]?=some (.cells (frow y n { g with cost:=c }).toArray 146 (0,0)):=set_rowL (cs:=frow y n g) hr 3 (.int .i64 c)
                have r3:((w6.setCell ⟨y.fb n,3,none⟩ (.int .i64 c)).setCell ⟨y.fb n,4,none⟩ (.int .i64 p)).heap[y.fb n]?=some (.cells (frow y n { g with cost:=c,keep:=p }).toArray 146 (0,0)):=set_rowL (cs:=frow y n { g with cost:=c }) r2 4 (.int .i64 p)
                have s0:=frozen_of_row w6 (y.fb n) 3 _ _ hr;have s1:=frozen_of_row w6 (y.fb n) 4 _ _ hr;have u0:w6.cell? ⟨y.fb n,3,none⟩=some (.int .i64 g.cost):=cellL hr 3 _ rfl;have u1:w6.cell? ⟨y.fb n,4,none⟩=some (.int .i64 g.keep):=cellL hr 4 _ rfl;have HA2:=Lib.hid r2;have HA3:=Lib.hid r3;have y7:w6.cell? ⟨Hb,7,none⟩=some (.int .i64 c):=cell_of_row w6 _ 7 _ _ _ HR8.out;have y9:w6.cell? ⟨Hb,9,none⟩=some (.int .i64 p):=cell_of_row w6 _ 9 _ _ _ HR8.out;clear hr r2 r3;go_wp2_with fail
                go_region
                obtain ⟨h10,n10⟩:=Cor.fb h8 eg8 { g with cost:=c } rfl rfl rfl rfl rfl HA2.out (grown_set w6 0 (y.fb n) 3 (.int .i64 c));obtain ⟨h11,n11⟩:=Cor.fb h10 (setG_at _ _ _) { g with cost:=c,keep:=p } rfl rfl rfl rfl rfl HA3.out (grown_set (w6.setCell ⟨y.fb n,3,none⟩ (.int .i64 c)) 0 (y.fb n) 4 (.int .i64 p));have HN11:=Lib.hid (HN8.out.trans (n10.trans n11)).drew;rw [setG_setG] at h11;have h11:=h11.drew;clear h10 n10 n11 y7 y9 s0 s1 u0 u1 HA2 HA3 h8 HN8 HR8;generalize ((w6.setCell ⟨y.fb n,3,none⟩ (.int .i64 c)).setCell ⟨y.fb n,4,none⟩ (.int .i64 p)).drew=w11 at h11 HN11 ⊢
                have hs11:s6.setG n { g with cost:=c,keep:=p }=(({ s with F:=funF s.A s.F n a v }:St).setG n { (s.fu.a n).getD (Fu.new a m) with cost:=c,keep:=p }):=by
                  rw [←HS6.out,HFU.out];rfl
                have kk:Calls Tryz.prog 79 #[ptr y.c,ptr (y.fb n)] w11 _:=(c_keep (y:=y) h11 (setG_at _ _ _) (by rw [hs11];exact HI6.out) :)
                have KK:=Lib.hid kk;have HS11:=Lib.hid hs11;clear kk h11 hs11;go_wp2_with fail
                with_reducible refine KK.out.mono ?_
                rintro e w12 ⟨rfl,b12,o12,h12,n12⟩;go_wp2_with fail
                go_ret
                rw [HE.out];have h13:=h12;rw [HS11.out] at h13;exact ⟨rfl,y.at_ b12,rfl,rfl,o12,h13,HN11.out.trans n12⟩
              · have d5:(vv == 0)=false:=by simp [hz]
                have hA:funF s.A s.F n a v=s.F:=by have:=HVV.out;unfold funF;rw [if_neg (by omega)]
                rw [hA] at h6;have HE:=Lib.hid (func_no HGV.out hz);clear hz hA HGV HVV;go_wp2_with fail
                go_ret
                rw [HE.out];exact ⟨rfl,Ty.of ⟨o6,h6,HN6.out⟩⟩
          · have dv:decide (v > 0)=false:=by simp;omega
            have HGG:=Lib.hid (HG.out.trans (if_neg (fun q=>hv0 q.1)));clear hv0;have y1:w5.cell? ⟨Hb,1,none⟩=some (.int .i64 n):=cell_of_row w5 _ 1 _ _ _ HR5.out;have y5:w5.cell? ⟨Hb,5,none⟩=some (.int .i64 a):=cell_of_row w5 _ 5 _ _ _ HR5.out;have y8:w5.cell? ⟨Hb,8,none⟩=some (.int .i64 v):=cell_of_row w5 _ 8 _ _ _ HR5.out;have y9:w5.cell? ⟨Hb,9,none⟩=some (.int .i64 p):=cell_of_row w5 _ 9 _ _ _ HR5.out;have q2:=h5.c2;go_wp2_with fail
            go_still_tail 10,(by kernel_rfl)
            change wpList _ _ _ _ _ w5.drew;have ka:=k_lfun h5.drew n a v;obtain ⟨vv,hvv⟩:∃ vv:Int,(funC s.A s.F n a v:Int)=vv:=⟨_,rfl⟩;rw [hvv] at ka;have HGV:Hid (funE s ⟨k,n,l,z,r,a,m,c,v,p⟩=vv):=Lib.hid (by rw [HGG.out];exact hvv)
            have HVV:=Lib.hid hvv;have KA:=Lib.hid ka;have HR5d:Hid (w5.drew.heap[Hb]?=_):=HR5;have HN5d:=Lib.hid HN5.out.drew;clear y1 y5 y8 y9 q2 h5 ka HR5 HN5 hvv HGG HG;go_wp2_with fail
            with_reducible refine KA.out.mono ?_
            rintro e w6 ⟨rfl,o6,h6,n6⟩;have HR6:=Lib.hid (n6.blk HF1.out HR5d.out);have HF6:=Lib.hid (n6.none HF1.out (lt_of_row HR5d.out));have HN6:=Lib.hid (HN5d.out.trans n6);clear KA n6 HR5d HN5d HF1
            by_cases hz:vv=0
            · subst hz
              have HE:=Lib.hid (func_yes HGV.out);obtain ⟨s6,hs6⟩:∃ s6:St,({ s with A:=s.A,F:=funF s.A s.F n a v }:St)=s6:=⟨_,rfl⟩;have HI6:=Lib.hid (HI.out.func1 (ev:=⟨k,n,l,z,r,a,m,c,v,p⟩) HP.out HFB.out.2.2 (by show (s.tk.a a).isSome=true;rw [HK.out];rfl) (funF s.A s.F n a v))
              have HS6:=Lib.hid hs6;rw [hs6] at h6;have hfu6:s6.fu=s.fu:=by rw [←hs6]
              have HFU6:=Lib.hid hfu6;clear hs6 hfu6 HVV HGV;have h8:=h6;have HR8:=HR6;have HN8:=HN6;have eg8:s6.fu.a n=some g:=by rw [HFU6.out];exact HFU.out
              clear HFU6 HR6 HN6 h6;have hr:=Cor.fbRow h8 eg8;have r2:(w6.setCell ⟨y.fb n,3,none⟩ (.int .i64 c)).heap[y.fb n]?=some (.cells (frow y n { g with cost:=c }).toArray 146 (0,0)):=set_rowL (cs:=frow y n g) hr 3 (.int .i64 c)
              have r3:((w6.setCell ⟨y.fb n,3,none⟩ (.int .i64 c)).setCell ⟨y.fb n,4,none⟩ (.int .i64 p)).heap[y.fb n]?=some (.cells (frow y n { g with cost:=c,keep:=p }).toArray 146 (0,0)):=set_rowL (cs:=frow y n { g with cost:=c }) r2 4 (.int .i64 p)
              have s0:=frozen_of_row w6 (y.fb n) 3 _ _ hr;have s1:=frozen_of_row w6 (y.fb n) 4 _ _ hr;have u0:w6.cell? ⟨y.fb n,3,none⟩=some (.int .i64 g.cost):=cellL hr 3 _ rfl;have u1:w6.cell? ⟨y.fb n,4,none⟩=some (.int .i64 g.keep):=cellL hr 4 _ rfl;have HA2:=Lib.hid r2;have HA3:=Lib.hid r3;have y7:w6.cell? ⟨Hb,7,none⟩=some (.int .i64 c):=cell_of_row w6 _ 7 _ _ _ HR8.out;have y9:w6.cell? ⟨Hb,9,none⟩=some (.int .i64 p):=cell_of_row w6 _ 9 _ _ _ HR8.out;clear hr r2 r3;go_wp2_with fail
              go_region
              obtain ⟨h10,n10⟩:=Cor.fb h8 eg8 { g with cost:=c } rfl rfl rfl rfl rfl HA2.out (grown_set w6 0 (y.fb n) 3 (.int .i64 c));obtain ⟨h11,n11⟩:=Cor.fb h10 (setG_at _ _ _) { g with cost:=c,keep:=p } rfl rfl rfl rfl rfl HA3.out (grown_set (w6.setCell ⟨y.fb n,3,none⟩ (.int .i64 c)) 0 (y.fb n) 4 (.int .i64 p));have HN11:=Lib.hid (HN8.out.trans (n10.trans n11)).drew;rw [setG_setG] at h11;have h11:=h11.drew;clear h10 n10 n11 y7 y9 s0 s1 u0 u1 HA2 HA3 h8 HN8 HR8;generalize ((w6.setCell ⟨y.fb n,3,none⟩ (.int .i64 c)).setCell ⟨y.fb n,4,none⟩ (.int .i64 p)).drew=w11 at h11 HN11 ⊢
              have hs11:s6.setG n { g with cost:=c,keep:=p }=(({ s with F:=funF s.A s.F n a v }:St).setG n { (s.fu.a n).getD (Fu.new a m) with cost:=c,keep:=p }):=by
                rw [←HS6.out,HFU.out];rfl
              have kk:Calls Tryz.prog 79 #[ptr y.c,ptr (y.fb n)] w11 _:=(c_keep (y:=y) h11 (setG_at _ _ _) (by rw [hs11];exact HI6.out) :)
              have KK:=Lib.hid kk;have HS11:=Lib.hid hs11;clear kk h11 hs11;go_wp2_with fail
              with_reducible refine KK.out.mono ?_
              rintro e w12 ⟨rfl,b12,o12,h12,n12⟩;go_wp2_with fail
              go_ret
              rw [HE.out];have h13:=h12;rw [HS11.out] at h13;exact ⟨rfl,y.at_ b12,rfl,rfl,o12,h13,HN11.out.trans n12⟩
            · have d5:(vv == 0)=false:=by simp [hz]
              have hA:funF s.A s.F n a v=s.F:=by have:=HVV.out;unfold funF;rw [if_neg (by omega)]
              rw [hA] at h6;have HE:=Lib.hid (func_no HGV.out hz);clear hz hA HGV HVV;go_wp2_with fail
              go_ret
              rw [HE.out];exact ⟨rfl,Ty.of ⟨o6,h6,HN6.out⟩⟩
        · have HE:=Lib.hid (func_no (funE_3 (s:=s) (e:=⟨k,n,l,z,r,a,m,c,v,p⟩) hbi hk hf (by show g.acc≠a∨g.mem≠m;by_cases q:g.acc=a;exact Or.inr (fun q2=>hac ⟨q,q2⟩);exact Or.inl q)) (by decide))
          have HFU:=Lib.hid hf;have lk:=h3.lfK hf hwn;have lk1:=fun j=>(h3.drewN j).lfK hf hwn;have lk2:=h3.drew.lfK hf hwn;clear hbi hk hwa hwn;go_wp2_with fail
          go_quiet (fail)
          have h4:=h3.drewN nq;have HR4:Hid ((w3.drewN nq).heap[Hb]?=_):=HR3;have HN4:=Lib.hid (HN3.out.trans (⟨(Only.refl _ _).drewN nq,fun _ q=>Or.inl q⟩:Nx w3 own (w3.drewN nq) own));clear lk lk1 lk2 y1 q4 h3 HR3 HN3;generalize w3.drewN nq=w4 at h4 HR4 HN4 ⊢;have y5:w4.cell? ⟨Hb,5,none⟩=some (.int .i64 a):=cell_of_row w4 _ 5 _ _ _ HR4.out;have y6:w4.cell? ⟨Hb,6,none⟩=some (.int .i64 m):=cell_of_row w4 _ 6 _ _ _ HR4.out
          by_cases q0:g.acc=a
          · have q1:w4.cell? ⟨y.fb n,1,none⟩=some (.int .i64 a):=by rw [←q0];exact h4.g1 hf
            obtain ⟨gm,hgm⟩:∃ gm,g.mem=gm:=⟨_,rfl⟩;have q2:w4.cell? ⟨y.fb n,2,none⟩=some (.int .i64 gm):=by rw [←hgm];exact h4.g2 hf
            have d2:(gm == m)=false:=by rw [←hgm];simp;exact fun q=>hac ⟨q0,q⟩
            clear hac hf q0 hgm;go_wp2_with fail
            go_quiet (fail)
            go_wp2_with fail
            go_ret
            rw [HE.out];exact ⟨rfl,Ty.of ⟨own,h4.drewN _,HN4.out.trans ⟨(Only.refl _ _).drewN _,fun _ q=>Or.inl q⟩⟩⟩
          · obtain ⟨ga,hga⟩:∃ ga,g.acc=ga:=⟨_,rfl⟩
            have q1:w4.cell? ⟨y.fb n,1,none⟩=some (.int .i64 ga):=by rw [←hga];exact h4.g1 hf
            have d1:(ga == a)=false:=by rw [←hga];simp;exact q0
            have d1b:(ga != a)=true:=by rw [←hga];simp;exact q0
            have d1c:(!(ga == a))=true:=by rw [d1];rfl
            clear hac hf q0 hga;go_wp2_with fail
            go_region
            all_goals
             (
              go_wp2_with fail
              go_ret
              rw [HE.out];exact ⟨rfl,Ty.of ⟨own,h4.drew,HN4.out.drew⟩⟩)
end Go.Proofs.YthdengocipfgiaaGreat.W.C
