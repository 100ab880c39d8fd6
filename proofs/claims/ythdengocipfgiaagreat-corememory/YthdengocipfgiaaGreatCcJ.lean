import Derived.Test.YthdengocipfgiaaGreatCcI
import Derived.Test.YthdengocipfgiaaGreatCaA
import Derived.Test.YthdengocipfgiaaGreatCaC
import Derived.Test.YthdengocipfgiaaGreatCaP
import Derived.Laws.ResultCell
/- A part of what core's laws stand on. -/
set_option linter.unusedVariables false
set_option linter.unusedSimpArgs false
set_option maxRecDepth 100000
set_option maxHeartbeats 1600000
namespace Go.Proofs.YthdengocipfgiaaGreat.W.C
open Go.RowKit Go.Proofs.YthdengocipfgiaaGreat.W
attribute [local go_sem] Oper.semAt_some
def rawrow:List Value:=[.int .i64 0,.int .i64 0,.pointer none,.map none,.map none,.pointer none,.map none,.map none,.map none,.pointer none,.int .i64 0,.int .i64 0,.int .i64 0,.int .i64 0,.int .i64 0,.slice none 0 0]
def Raw (w:World) (c:Nat):Prop:=w.heap[c]?=some (.cells rawrow.toArray 69 (0,0))
theorem c_New (w:World):Calls Tryz.prog 6 #[] w fun e w'=>e=.returned (ptr w.heap.size)∧Raw w' w.heap.size∧Below w.heap.size w w':=by
 go_enter Tryz.func6,Tryz.ntmps6
 go_wp2
 go_ret
 exact ⟨rfl,heap_alloc_new w _,(Below.refl _ _).alloc (Nat.le_refl _) _⟩
theorem alloc_row {w:World} {c:Nat} {o:Obj} (h:w.heap[c]?=some o) (O:Obj):(w.alloc O).heap[c]?=some o:=((Only.refl w (fun _=>False)).alloc O).blk (fun q=>q) h
theorem sz1:(Tryz.prog.info? 52).map (·.size)=some 1∧(Tryz.prog.info? 55).map (·.size)=some 1∧(Tryz.prog.info? 59).map (·.size)=some 1∧(Tryz.prog.info? 53).map (·.size)=some 1∧(Tryz.prog.info? 54).map (·.size)=some 1∧(Tryz.prog.info? 56).map (·.size)=some 1∧(Tryz.prog.info? 57).map (·.size)=some 1∧(Tryz.prog.info? 58).map (·.size)=some 1:=⟨by kernel_rfl,by kernel_rfl,by kernel_rfl,by kernel_rfl,by kernel_rfl,by kernel_rfl,by kernel_rfl,by kernel_rfl⟩
theorem c_readyC {w:World} {own:Nat→Option Tag} {y:Lay} {s:St} (h:Cor w own y s):Calls Tryz.prog 16 #[ptr y.c] w fun e w'=>e=.returned (.tuple #[])∧w=w':=by
 have q2:=h.c2
 go_enter Tryz.func16,Tryz.ntmps16
 go_wp2_with fail
 (try simp only [Exit.inBlock,Exit.then]);refine bodyPost_ret (results_none rfl _ _ _) rfl ?_
 exact ⟨rfl,rfl⟩
def readyrow (l mb mf h mp mx ma t:Nat):List Value:=[.int .i64 0,.int .i64 0,ptr l,.map (some mb),.map (some mf),ptr h,.map (some mp),.map (some mx),.map (some ma),ptr t,.int .i64 0,.int .i64 0,.int .i64 0,.int .i64 0,.int .i64 0,.slice none 0 0]
structure Rdy (w0:World) (c:Nat) (w:World) (l mb mf h mp mx ma t:Nat):Prop where
 row:w.heap[c]?=some (.cells (readyrow l mb mf h mp mx ma t).toArray 69 (0,0))
 lt:c<w0.heap.size
 ge:w0.heap.size≤l∧l<h∧h<t∧t<mb∧mb<mf∧mf<mp∧mp<mx∧mx<ma
 ll:Lg w l (fun _=>none) (fun _=>none)
 hh:Ho w h (fun _=>none)
 tt:HT.Tx w t 0 (fun _=>none) (fun j=>j=t)
 mmb:Mp Tryz.prog 3 w mb (fun _=>none) 0
 mmf:Mp Tryz.prog 3 w mf (fun _=>none) 0
 mmp:Mp Tryz.prog 3 w mp (fun _=>none) 0
 mmx:Mp Tryz.prog 3 w mx (fun _=>none) 0
 mma:Mp Tryz.prog 3 w ma (fun _=>none) 0
 only:Only w0 w (fun j=>j=c)
def rdyL (c l mb mf h mp mx ma t:Nat):Lay:=⟨c,l,h,t,mb,mf,mp,mx,ma,fun _=>0,fun _=>0,fun _=>0,fun _=>0,fun _=>0,fun _=>0,fun _=>0,fun _=>0,fun _=>0,fun _=>0,fun _=>0⟩
theorem Rdy.cor {w0 w:World} {c l mb mf h mp mx ma t:Nat} (R:Rdy w0 c w l mb mf h mp mx ma t):∃ own,Cor w own (rdyL c l mb mf h mp mx ma t) St.zero∧∀ j,own j≠none→j=c∨w0.heap.size≤j:=by
 obtain ⟨hrow,hlt,⟨g1,g2,g3,g4,g5,g6,g7,g8⟩,h1,h2,h3,h4,h5,h6,h7,h8,ho⟩:=R;have hma:=h8.lt;obtain ⟨τ,hτ⟩:∃ τ:Nat→Option Tag,τ=fun j=>if j=c then some .core else if j=l then some .led else if j=h then some .hos else if j=t then some .tim else if j=mb then some .mb else if j=mf then some .mf else if j=mp then some .mp else if j=mx then some .mx else if j=ma then some .ma else none:=⟨_,rfl⟩;have t0:τ c=some .core:=by rw [hτ];show (if c=c then _ else _)=_;rw [if_pos rfl]
 have t1:τ l=some .led:=by rw [hτ];show (if l=c then _ else _)=_;rw [if_neg (by omega),if_pos rfl]
 have t2:τ h=some .hos:=by rw [hτ];show (if h=c then _ else _)=_;rw [if_neg (by omega),if_neg (by omega),if_pos rfl]
 have t3:τ t=some .tim:=by rw [hτ];show (if t=c then _ else _)=_;rw [if_neg (by omega),if_neg (by omega),if_neg (by omega),if_pos rfl]
 have t4:τ mb=some .mb:=by rw [hτ];show (if mb=c then _ else _)=_;rw [if_neg (by omega),if_neg (by omega),if_neg (by omega),if_neg (by omega),if_pos rfl]
 have t5:τ mf=some .mf:=by rw [hτ];show (if mf=c then _ else _)=_;rw [if_neg (by omega),if_neg (by omega),if_neg (by omega),if_neg (by omega),if_neg (by omega),if_pos rfl]
 have t6:τ mp=some .mp:=by rw [hτ];show (if mp=c then _ else _)=_;rw [if_neg (by omega),if_neg (by omega),if_neg (by omega),if_neg (by omega),if_neg (by omega),if_neg (by omega),if_pos rfl]
 have t7:τ mx=some .mx:=by rw [hτ];show (if mx=c then _ else _)=_;rw [if_neg (by omega),if_neg (by omega),if_neg (by omega),if_neg (by omega),if_neg (by omega),if_neg (by omega),if_neg (by omega),if_pos rfl]
 have t8:τ ma=some .ma:=by rw [hτ];show (if ma=c then _ else _)=_;rw [if_neg (by omega),if_neg (by omega),if_neg (by omega),if_neg (by omega),if_neg (by omega),if_neg (by omega),if_neg (by omega),if_neg (by omega),if_pos rfl]
 have inv:∀ j u,τ j=some u→(j=c∧u=.core)∨(j=l∧u=.led)∨(j=h∧u=.hos)∨(j=t∧u=.tim)∨(j=mb∧u=.mb)∨(j=mf∧u=.mf)∨(j=mp∧u=.mp)∨(j=mx∧u=.mx)∨(j=ma∧u=.ma):=fun j u q=>by
  rw [hτ] at q;dsimp only at q
  by_cases e0:j=c
  ·rw [if_pos e0] at q;cases q;exact Or.inl ⟨e0,rfl⟩
  rw [if_neg e0] at q
  by_cases e1:j=l
  ·rw [if_pos e1] at q;cases q;exact Or.inr (Or.inl ⟨e1,rfl⟩)
  rw [if_neg e1] at q
  by_cases e2:j=h
  ·rw [if_pos e2] at q;cases q;exact Or.inr (Or.inr (Or.inl ⟨e2,rfl⟩))
  rw [if_neg e2] at q
  by_cases e3:j=t
  ·rw [if_pos e3] at q;cases q;exact Or.inr (Or.inr (Or.inr (Or.inl ⟨e3,rfl⟩)))
  rw [if_neg e3] at q
  by_cases e4:j=mb
  ·rw [if_pos e4] at q;cases q;exact Or.inr (Or.inr (Or.inr (Or.inr (Or.inl ⟨e4,rfl⟩))))
  rw [if_neg e4] at q
  by_cases e5:j=mf
  ·rw [if_pos e5] at q;cases q;exact Or.inr (Or.inr (Or.inr (Or.inr (Or.inr (Or.inl ⟨e5,rfl⟩)))))
  rw [if_neg e5] at q
  by_cases e6:j=mp
  ·rw [if_pos e6] at q;cases q;exact Or.inr (Or.inr (Or.inr (Or.inr (Or.inr (Or.inr (Or.inl ⟨e6,rfl⟩))))))
  rw [if_neg e6] at q
  by_cases e7:j=mx
  ·rw [if_pos e7] at q;cases q;exact Or.inr (Or.inr (Or.inr (Or.inr (Or.inr (Or.inr (Or.inr (Or.inl ⟨e7,rfl⟩)))))))
  rw [if_neg e7] at q
  by_cases e8:j=ma
  ·rw [if_pos e8] at q;cases q;exact Or.inr (Or.inr (Or.inr (Or.inr (Or.inr (Or.inr (Or.inr (Or.inr (⟨e8,rfl⟩))))))))
  rw [if_neg e8] at q
  cases q
 clear hτ;refine ⟨τ,⟨fun j u q=>?_,fun u=>?_⟩,fun j q=>?_⟩
 ·have hcl:=lt_of_row hrow
  rcases inv j u q with ⟨e,_⟩ | ⟨e,_⟩ | ⟨e,_⟩ | ⟨e,_⟩ | ⟨e,_⟩ | ⟨e,_⟩ | ⟨e,_⟩ | ⟨e,_⟩ | ⟨e,_⟩ <;> omega
 ·cases u with
  | core=>exact ⟨t0,.slice none 0 0,none,hrow,Or.inl ⟨rfl,rfl,rfl⟩,fun g q=>nomatch q⟩
  | led=>exact ⟨t1,h1⟩
  | hos=>exact ⟨t2,h2⟩
  | tim =>
   have hj:∀ j,τ j=some .tim→j=t:=fun j q=>by
    rcases inv j _ q with ⟨_,e⟩ | ⟨_,e⟩ | ⟨_,e⟩ | ⟨e,_⟩ | ⟨_,e⟩ | ⟨_,e⟩ | ⟨_,e⟩ | ⟨_,e⟩ | ⟨_,e⟩ <;> first | (cases e;done) | exact e
   exact ⟨h3.1.mono (fun j q=>by rw [q];exact t3),fun j q=>by rw [hj j q];exact h3.lt⟩
  | mb=>exact ⟨t4,h4⟩
  | mf=>exact ⟨t5,h5⟩
  | mp=>exact ⟨t6,h6⟩
  | mx=>exact ⟨t7,h7⟩
  | ma=>exact ⟨t8,h8⟩
  | bk a=>exact fun v hv=>nomatch hv
  | fb a=>exact fun v hv=>nomatch hv
  | fh a=>exact fun v hv=>nomatch hv
  | fr a=>exact fun v hv=>nomatch hv
  | fp a=>exact fun v hv=>nomatch hv
  | fl a=>exact fun v hv=>nomatch hv
  | pb a=>exact fun v hv=>nomatch hv
  | pm a=>exact fun v hv=>nomatch hv
  | pc a=>exact fun v hv=>nomatch hv
  | bx a=>exact fun v hv=>nomatch hv
 ·cases r:τ j with
  | none=>exact absurd r q
  | some u =>
   rcases inv j u r with ⟨e,_⟩ | ⟨e,_⟩ | ⟨e,_⟩ | ⟨e,_⟩ | ⟨e,_⟩ | ⟨e,_⟩ | ⟨e,_⟩ | ⟨e,_⟩ | ⟨e,_⟩ <;> omega
theorem c_ready0 {w:World} {c:Nat} (h:Raw w c):Calls Tryz.prog 16 #[ptr c] w fun e w'=>e=.returned (.tuple #[])∧∃ l mb mf h mp mx ma t,Rdy w c w' l mb mf h mp mx ma t:=by
 have hmm:=@run_makeMap Tryz.prog;have q2:w.cell? ⟨c,2,none⟩=some (.pointer none):=cellL h 2 _ rfl;have hcl:=lt_of_row h;have hrow:w.heap[c]?=some (.cells rawrow.toArray 69 (0,0)):=h;have HR0:=Lib.hid hrow;clear hrow;obtain ⟨z1,z2,z3,z4,z5,z6,z7,z8⟩:=sz1;clear h
 go_enter Tryz.func16,Tryz.ntmps16
 go_wp2_with (first
  | (go_at_call 25;with_reducible refine (l_new _).mono ?_;rintro e1 w1 ⟨rfl,hl,hb1⟩;have HL:=Lib.hid hl;have HB1:=Lib.hid hb1;clear hl hb1)
  | (go_at_call 26;with_reducible refine (h_new _).mono ?_;rintro e2 w2 ⟨rfl,hh,hb2⟩;have HH:=Lib.hid hh;have HB2:=Lib.hid hb2;clear hh hb2)
  | (go_at_call 27;with_reducible refine (HT.x_new _).mono ?_;rintro e3 w3 ⟨rfl,ht,hb3⟩;have HTT:=Lib.hid ht;have HB3:=Lib.hid hb3;have hr3:=((Only.of_below (S:=fun _=>False) HB3.out).blk (fun q=>q) ((Only.of_below (S:=fun _=>False) HB2.out).blk (fun q=>q) ((Only.of_below (S:=fun _=>False) HB1.out).blk (fun q=>q) HR0.out)));clear ht hb3)
  | (with_reducible refine wpList_store_one rfl 52 (.tmp 14) (.tmp 10) rfl z1 c 2 rfl (ptr w.heap.size) rfl rfl rfl _ _ hr3 (by simp [rawrow]) ?_;intro w4 m4 g4)
  | (with_reducible refine wpList_store_one rfl 55 (.tmp 16) (.tmp 11) rfl z2 c 5 rfl (ptr w1.heap.size) rfl rfl rfl _ _ m4.out (by simp [rawrow]) ?_;intro w5 m5 g5)
  | (with_reducible refine wpList_store_one rfl 59 (.tmp 18) (.tmp 12) rfl z3 c 9 rfl (ptr w2.heap.size) rfl rfl rfl _ _ m5.out (by simp [rawrow]) ?_;intro w6 m6 g6)
  | (with_reducible refine wpList_store_one rfl 53 (.tmp 22) (.tmp 20) rfl z4 c 3 rfl (.map (some w6.heap.size)) rfl rfl rfl _ _ (alloc_row m6.out (.map #[] 0)) (by simp [rawrow]) ?_;intro w7 m7 g7)
  | (with_reducible refine wpList_store_one rfl 54 (.tmp 26) (.tmp 24) rfl z5 c 4 rfl (.map (some w7.heap.size)) rfl rfl rfl _ _ (alloc_row m7.out (.map #[] 0)) (by simp [rawrow]) ?_;intro w8 m8 g8)
  | (with_reducible refine wpList_store_one rfl 56 (.tmp 30) (.tmp 28) rfl z6 c 6 rfl (.map (some w8.heap.size)) rfl rfl rfl _ _ (alloc_row m8.out (.map #[] 0)) (by simp [rawrow]) ?_;intro w9 m9 g9)
  | (with_reducible refine wpList_store_one rfl 57 (.tmp 34) (.tmp 32) rfl z7 c 7 rfl (.map (some w9.heap.size)) rfl rfl rfl _ _ (alloc_row m9.out (.map #[] 0)) (by simp [rawrow]) ?_;intro w10 m10 g10)
  | (with_reducible refine wpList_store_one rfl 58 (.tmp 38) (.tmp 36) rfl z8 c 8 rfl (.map (some w10.heap.size)) rfl rfl rfl _ _ (alloc_row m10.out (.map #[] 0)) (by simp [rawrow]) ?_;intro w11 m11 g11))
 go_end0
 have O0:Only w w1 (fun j=>j=c):=Only.of_below HB1.out;have O1:Only w1 w2 (fun j=>j=c):=Only.of_below HB2.out;have O2:Only w2 w3 (fun j=>j=c):=Only.of_below HB3.out;have O3:Only w3 w4 (fun j=>j=c):=Only.grown g4 (Or.inl rfl);have O4:Only w4 w5 (fun j=>j=c):=Only.grown g5 (Or.inl rfl);have O5:Only w5 w6 (fun j=>j=c):=Only.grown g6 (Or.inl rfl);have G6:Only (w6.alloc (.map #[] 0)) w7 (fun j=>j=c):=Only.grown g7 (Or.inl rfl);have O6:Only w6 w7 (fun j=>j=c):=((Only.refl w6 (fun j=>j=c)).alloc _).trans G6 (fun j q=>Or.inl q);have S6:w6.heap.size<w7.heap.size:=by have:=G6.size;rw [World.size_alloc] at this;omega
 have G7:Only (w7.alloc (.map #[] 0)) w8 (fun j=>j=c):=Only.grown g8 (Or.inl rfl);have O7:Only w7 w8 (fun j=>j=c):=((Only.refl w7 (fun j=>j=c)).alloc _).trans G7 (fun j q=>Or.inl q);have S7:w7.heap.size<w8.heap.size:=by have:=G7.size;rw [World.size_alloc] at this;omega
 have G8:Only (w8.alloc (.map #[] 0)) w9 (fun j=>j=c):=Only.grown g9 (Or.inl rfl);have O8:Only w8 w9 (fun j=>j=c):=((Only.refl w8 (fun j=>j=c)).alloc _).trans G8 (fun j q=>Or.inl q);have S8:w8.heap.size<w9.heap.size:=by have:=G8.size;rw [World.size_alloc] at this;omega
 have G9:Only (w9.alloc (.map #[] 0)) w10 (fun j=>j=c):=Only.grown g10 (Or.inl rfl);have O9:Only w9 w10 (fun j=>j=c):=((Only.refl w9 (fun j=>j=c)).alloc _).trans G9 (fun j q=>Or.inl q);have S9:w9.heap.size<w10.heap.size:=by have:=G9.size;rw [World.size_alloc] at this;omega
 have G10:Only (w10.alloc (.map #[] 0)) w11 (fun j=>j=c):=Only.grown g11 (Or.inl rfl);have O10:Only w10 w11 (fun j=>j=c):=((Only.refl w10 (fun j=>j=c)).alloc _).trans G10 (fun j q=>Or.inl q);have S10:w10.heap.size<w11.heap.size:=by have:=G10.size;rw [World.size_alloc] at this;omega
 have T11:Only w11 w11 (fun j=>j=c):=Only.refl _ _;have T10:Only w10 w11 (fun j=>j=c):=O10.trans T11 (fun j q=>Or.inl q);have T9:Only w9 w11 (fun j=>j=c):=O9.trans T10 (fun j q=>Or.inl q);have T8:Only w8 w11 (fun j=>j=c):=O8.trans T9 (fun j q=>Or.inl q);have T7:Only w7 w11 (fun j=>j=c):=O7.trans T8 (fun j q=>Or.inl q);have T6:Only w6 w11 (fun j=>j=c):=O6.trans T7 (fun j q=>Or.inl q);have T5:Only w5 w11 (fun j=>j=c):=O5.trans T6 (fun j q=>Or.inl q);have T4:Only w4 w11 (fun j=>j=c):=O4.trans T5 (fun j q=>Or.inl q);have T3:Only w3 w11 (fun j=>j=c):=O3.trans T4 (fun j q=>Or.inl q);have T2:Only w2 w11 (fun j=>j=c):=O2.trans T3 (fun j q=>Or.inl q);have T1:Only w1 w11 (fun j=>j=c):=O1.trans T2 (fun j q=>Or.inl q);have T0:Only w w11 (fun j=>j=c):=O0.trans T1 (fun j q=>Or.inl q);have hl:=lt_of_row HL.out.row;have hh:=lt_of_row HH.out.row;have ht:=HTT.out.lt;have sa:=O3.size;have sb:=O4.size;have sc:=O5.size;refine ⟨rfl,w.heap.size,w6.heap.size,w7.heap.size,w1.heap.size,w8.heap.size,w9.heap.size,w10.heap.size,w2.heap.size,⟨m11.out,hcl,⟨Nat.le_refl _,hl,hh,by omega,S6,S7,S8,S9⟩,Lg.kept HL.out T1 (by omega),Ho.kept HH.out T2 (by omega),?_,?_,?_,?_,?_,?_,T0⟩⟩
 ·exact ⟨HTT.out.1.kept T3 (fun j q q'=>by omega),fun j q=>by rw [q];have:=T3.size;omega⟩
 ·exact (Mp.made Tryz.prog 3 w6).kept (G6.trans T7 (fun j q=>Or.inl q)) (fun q=>by have:=O0.size;have:=O1.size;have:=O2.size;omega)
 ·exact (Mp.made Tryz.prog 3 w7).kept (G7.trans T8 (fun j q=>Or.inl q)) (fun q=>by have:=O0.size;have:=O1.size;have:=O2.size;omega)
 ·exact (Mp.made Tryz.prog 3 w8).kept (G8.trans T9 (fun j q=>Or.inl q)) (fun q=>by have:=O0.size;have:=O1.size;have:=O2.size;omega)
 ·exact (Mp.made Tryz.prog 3 w9).kept (G9.trans T10 (fun j q=>Or.inl q)) (fun q=>by have:=O0.size;have:=O1.size;have:=O2.size;omega)
 ·exact (Mp.made Tryz.prog 3 w10).kept (G10.trans T11 (fun j q=>Or.inl q)) (fun q=>by have:=O0.size;have:=O1.size;have:=O2.size;omega)
theorem Cor.taken {w w':World} {own:Nat→Option Tag} {y:Lay} {s:St} (h:Cor w own y s) {v:Value} {G:Option Nat} (hr:w.heap[y.c]?=some (.cells (C.crow y s.now s.last v).toArray 69 (0,0)))
  (hI:Its cmdC 4 49 w v G s.out.length (outT s.out)) (hG:∀ g,G=some g→own g=some .core∧g≠y.c)
  (hn:w'.heap[y.c]?=some (.cells (C.crow y s.now s.last (.slice none 0 0)).toArray 69 (0,0))) (hg:w.grownBy w' (some y.c)) :
  ∃ own',Cor w' own' y { s with out:=[] }∧Nx w own w' own'∧(∀ g,G=some g→own' g=none)∧Its cmdC 4 49 w' v G s.out.length (outT s.out):=by
 have hc:=(h.ob .core).1;have ho:Only w w' (fun j=>j=y.c):=Only.grown hg (Or.inl rfl);have hsz:=ho.size
 have inv:∀ j t,(if G=some j then none else own j)=some t→own j=some t:=fun j t q=>by
  split at q
  ·cases q
  ·exact q
 refine ⟨fun j=>if G=some j then none else own j,⟨fun j t q=>Nat.lt_of_lt_of_le (h.lt j t (inv j t q)) hsz,fun t=>?_⟩,⟨ho.mono (fun j q=>by rw [q,hc];simp),fun j q=>Or.inl (fun e=>q (by split;rfl;exact e))⟩,fun g e=>if_pos e,hI.kept ho (fun g e=>(hG g e).2)⟩
 by_cases e:t=.core
 ·subst e
  exact ⟨by show (if G=some y.c then none else own y.c)=_;rw [if_neg (fun q=>(hG _ q).2 rfl)];exact hc,.slice none 0 0,none,hn,Or.inl ⟨rfl,rfl,rfl⟩,fun g q=>nomatch q⟩
 ·have hk:=(h.ob t).kept ho (fun j q q'=>e (by rw [q',hc] at q;cases q;rfl)) (own':=fun j=>if G=some j then none else own j) (fun j q=>by
   show (if G=some j then none else own j)=_
   rw [if_neg (fun q'=>e (by rw [(hG j q').1] at q;cases q;rfl))];exact q) (fun j q=>Nat.lt_of_lt_of_le (h.lt j t (inv j t q)) hsz)
  cases t with
  | core=>exact absurd rfl e
  | _=>exact hk
theorem answer_kind (s:St) (e:Ev):0≤(s.answer e).2.1∧(s.answer e).2.1≤4:=by
 have hc:∀ f,0≤(s.cold f).2.1∧(s.cold f).2.1≤4:=fun f=>by
  unfold St.cold;dsimp only
  split
  ·show (0:Int)≤4∧(4:Int)≤4;omega
  ·split
   ·show (0:Int)≤4∧(4:Int)≤4;omega
   ·show (0:Int)≤3∧(3:Int)≤4;omega
 unfold St.answer
 split
 ·unfold St.call
  split
  ·split
   ·show (0:Int)≤4∧(4:Int)≤4;omega
   ·split
    ·show (0:Int)≤4∧(4:Int)≤4;omega
    ·split
     ·show (0:Int)≤2∧(2:Int)≤4;omega
     ·exact hc _
  ·show (0:Int)≤1∧(1:Int)≤4;omega
 ·dsimp only
  split
  ·show (0:Int)≤0∧(0:Int)≤4;omega
  ·show (0:Int)≤1∧(1:Int)≤4;omega
theorem right_sm {k n l z r a m c v p:Int} (h:right ⟨k,n,l,z,r,a,m,c,v,p⟩):(0≤k∧k≤9)∧Sm ⟨k,n,l,z,r,a,m,c,v,p⟩:=by
 obtain ⟨h1,h2,h3,h4⟩:=h;refine ⟨⟨h1,h2⟩,?_⟩;have hk:k=0∨k=1∨k=2∨k=3∨(4≤k):=by have h1:0≤k:=h1;omega
 rcases hk with rfl | rfl | rfl | rfl | hk
 ·simp [mk] at h4
  obtain ⟨rfl,rfl,rfl,rfl,rfl,rfl,rfl,rfl,rfl⟩:=h4;unfold Sm;simp
 ·simp [nums] at h3
  simp [mk,nth,nums] at h4;unfold Sm;dsimp only;omega
 ·simp [nums] at h3
  unfold Sm;dsimp only;omega
 ·simp [nums] at h3
  simp [mk,nth,nums] at h4;unfold Sm;dsimp only;omega
 ·have k0:¬ k=0:=by omega
  have k1:¬ k=1:=by omega
  have k2:¬ k=2:=by omega
  have k3:¬ k=3:=by omega
  simp [nums,k0,k1,k2,k3] at h3;simp [mk,nth,nums,k0,k1,k2,k3] at h4;unfold Sm;dsimp only;omega
theorem crow_an (y:Lay) (now last:Int) (v:Value) (k:Nat) (hk:k<5):(crow y now last v).set (10+k) (.int .i64 (sat (y.an (k:Int)+1)))=crow { y with an:=anF y.an (k:Int) } now last v:=by
 have:k=0∨k=1∨k=2∨k=3∨k=4:=by omega
 rcases this with rfl | rfl | rfl | rfl | rfl <;> simp [crow,anF]
theorem ret_ans2 {g:Nat} {k b y e:Int} {w:World} {fn:Func} {t u:Tmp} {tmps:Array Value} {v:Value} (hf:fn.results=#[.cell t 35,.tmp u]) (ht:tmps.getD t undef=.pointer (some ⟨g,0,none⟩)) (hv:tmps.getD u undef=v)
  (HG:Hid (w.heap[g]?=some (ano k b y e))):(results fn tmps).run Tryz.prog w=.ok (.tuple #[.agg #[.int .i64 k,.int .i64 b,.int .i64 y,.int .i64 e],v]) w:=by
 rw [results_cell_tmp hf,ht,hv];simp [asAddr,run_loadVar_row w g _ _ _ _ _ HG.out Tryz.underlying35 rfl sizeAn,Result.andThen]
theorem c_DoN (cb:Nat) (k n l z r a m c v p:Int) (w:World) (hnr:¬ right ⟨k,n,l,z,r,a,m,c,v,p⟩) :
  Calls Tryz.prog 8 #[ptr cb,.agg #[.int .i64 k,.int .i64 n,.int .i64 l,.int .i64 z,.int .i64 r,.int .i64 a,.int .i64 m,.int .i64 c,.int .i64 v,.int .i64 p]] w fun e w'=>e=.returned (.tuple #[avl (1,0,0,1),.slice none 0 0])∧Below w.heap.size w w':=by
 have hb0:Below w.heap.size w ((w.alloc (.cells #[.int .i64 k,.int .i64 n,.int .i64 l,.int .i64 z,.int .i64 r,.int .i64 a,.int .i64 m,.int .i64 c,.int .i64 v,.int .i64 p] 29)).alloc (.cells #[.int .i64 0,.int .i64 0,.int .i64 0,.int .i64 0] 35)):=((Below.refl _ _).alloc (Nat.le_refl _) _).alloc (by rw [World.size_alloc];omega) _
 have hrow0:((w.alloc (.cells #[.int .i64 k,.int .i64 n,.int .i64 l,.int .i64 z,.int .i64 r,.int .i64 a,.int .i64 m,.int .i64 c,.int .i64 v,.int .i64 p] 29)).alloc (.cells #[.int .i64 0,.int .i64 0,.int .i64 0,.int .i64 0] 35)).heap[w.heap.size]?=some (.cells #[.int .i64 k,.int .i64 n,.int .i64 l,.int .i64 z,.int .i64 r,.int .i64 a,.int .i64 m,.int .i64 c,.int .i64 v,.int .i64 p] 29 (0,0)):=(two_new w (.cells #[.int .i64 k,.int .i64 n,.int .i64 l,.int .i64 z,.int .i64 r,.int .i64 a,.int .i64 m,.int .i64 c,.int .i64 v,.int .i64 p] 29) (.cells #[.int .i64 0,.int .i64 0,.int .i64 0,.int .i64 0] 35)).1;have hrow1:((w.alloc (.cells #[.int .i64 k,.int .i64 n,.int .i64 l,.int .i64 z,.int .i64 r,.int .i64 a,.int .i64 m,.int .i64 c,.int .i64 v,.int .i64 p] 29)).alloc (.cells #[.int .i64 0,.int .i64 0,.int .i64 0,.int .i64 0] 35)).heap[w.heap.size+1]?=some (ano 0 0 0 0):=(two_new w (.cells #[.int .i64 k,.int .i64 n,.int .i64 l,.int .i64 z,.int .i64 r,.int .i64 a,.int .i64 m,.int .i64 c,.int .i64 v,.int .i64 p] 29) (.cells #[.int .i64 0,.int .i64 0,.int .i64 0,.int .i64 0] 35)).2;have KR:=Lib.hid (fun W=>right_any k n l z r a m c v p W false ⟨fun q=>(nomatch q),fun q=>absurd q hnr⟩)
 go_enter Tryz.func8,Tryz.ntmps8
 go_upto_region 1 with (fail)
 obtain ⟨Hb,hHb⟩:∃ Hb,w.heap.size=Hb:=⟨_,rfl⟩;have HHB:=Lib.hid hHb;have HWA:=Lib.hid (show w.heap.size≤Hb+1 by omega)
 rw [hHb] at hrow0 hrow1;rw [hHb];have HR1:=Lib.hid hrow0;have HA1:=Lib.hid hrow1;clear hrow0 hrow1;have HB0:=Lib.hid hb0;clear hHb hb0;generalize (w.alloc (.cells #[.int .i64 k,.int .i64 n,.int .i64 l,.int .i64 z,.int .i64 r,.int .i64 a,.int .i64 m,.int .i64 c,.int .i64 v,.int .i64 p] 29)).alloc (.cells #[.int .i64 0,.int .i64 0,.int .i64 0,.int .i64 0] 35)=w1 at HB0 HR1 HA1 ⊢;obtain ⟨Ha,hHa⟩:∃ Ha,Hb+1=Ha:=⟨_,rfl⟩;rw [hHa] at HA1 HWA;rw [hHa];clear hHa;have y0:w1.cell? ⟨Hb,0,none⟩=some (.int .i64 k):=cell_of_row _ _ 0 _ _ _ HR1.out;have y1:w1.cell? ⟨Hb,1,none⟩=some (.int .i64 n):=cell_of_row _ _ 1 _ _ _ HR1.out;have y2:w1.cell? ⟨Hb,2,none⟩=some (.int .i64 l):=cell_of_row _ _ 2 _ _ _ HR1.out;have y3:w1.cell? ⟨Hb,3,none⟩=some (.int .i64 z):=cell_of_row _ _ 3 _ _ _ HR1.out;have y4:w1.cell? ⟨Hb,4,none⟩=some (.int .i64 r):=cell_of_row _ _ 4 _ _ _ HR1.out;have y5:w1.cell? ⟨Hb,5,none⟩=some (.int .i64 a):=cell_of_row _ _ 5 _ _ _ HR1.out;have y6:w1.cell? ⟨Hb,6,none⟩=some (.int .i64 m):=cell_of_row _ _ 6 _ _ _ HR1.out;have y7:w1.cell? ⟨Hb,7,none⟩=some (.int .i64 c):=cell_of_row _ _ 7 _ _ _ HR1.out;have y8:w1.cell? ⟨Hb,8,none⟩=some (.int .i64 v):=cell_of_row _ _ 8 _ _ _ HR1.out;have y9:w1.cell? ⟨Hb,9,none⟩=some (.int .i64 p):=cell_of_row _ _ 9 _ _ _ HR1.out
 go_wp2_with (first
  | (go_at_call 14;with_reducible refine (KR.out _).mono ?_;rintro e2 w2 ⟨rfl,hb2⟩;have HB2:=Lib.hid hb2;clear hb2)
  | (go_at_call 15;with_reducible refine (c_refused 1 w2).mono ?_;rintro e3 w3 ⟨rfl,hb3⟩;have HB3:=Lib.hid hb3;have HA3:=Lib.hid ((Only.of_below (S:=fun _=>False) HB3.out).blk (fun q=>q) ((Only.of_below (S:=fun _=>False) HB2.out).blk (fun q=>q) HA1.out));clear hb3)
  | (with_reducible refine wpList_store_ans rfl (.tmp 4) (.tmp 11) rfl Ha 1 0 0 1 rfl rfl 0 0 0 0 HA3 ?_;intro w4 HG4 hg4))
 refine bodyPost_ret (ret_ans2 (fn:=Tryz.f8) rfl rfl rfl HG4) rfl ⟨rfl,?_⟩;have hb3:Below w.heap.size w w3:=HB0.out.trans ((HB2.out.mono HB0.out.size).trans (HB3.out.mono (by have:=HB0.out.size;have:=HB2.out.size;omega)))
 exact ⟨hg4.os.trans hb3.os,hg4.tape.trans hb3.tape,hg4.output.trans hb3.output,Nat.le_trans hb3.size hg4.size,fun j hj=>(hg4.block j (by have:=hb3.size;omega) (by have:=HWA.out;simp;omega)).trans (hb3.block j hj)⟩
def DoP (w:World) (own:Nat→Option Tag) (c:Nat) (an:Int→Int) (s:St) (e:Ev) (sv:Value) (w':World):Prop :=
 ∃ y' own' G,y'.c=c∧y'.an=anF an (s.act e).2.1.1∧Cor w' own' y' (s.act e).1∧Nx w own w' own'∧Its cmdC 4 49 w' sv G (s.act e).2.2.length (outT (s.act e).2.2)∧∀ g,G=some g→own' g=none∧(own g≠none∨w.heap.size≤g)
theorem Cor.coreAll {w:World} {own:Nat→Option Tag} {y:Lay} {s:St} (h:Cor w own y s):∃ v G,w.heap[y.c]?=some (.cells (C.crow y s.now s.last v).toArray 69 (0,0))∧Its cmdC 4 49 w v G s.out.length (outT s.out)∧∀ g,G=some g→own g=some .core∧g≠y.c:=by
 obtain ⟨_,v,G,h1,h2,h3⟩:=h.ob .core;exact ⟨v,G,h1,h2,h3⟩
theorem Cor.count {w w':World} {own:Nat→Option Tag} {y:Lay} {s:St} (h:Cor w own y s) {v:Value} {G:Option Nat} (h2:Its cmdC 4 49 w v G s.out.length (outT s.out)) (h3:∀ g,G=some g→own g=some .core∧g≠y.c) (k:Nat) (hk:k<5)
  (hn:w'.heap[y.c]?=some (.cells ((C.crow y s.now s.last v).set (10+k) (.int .i64 (sat (y.an (k:Int)+1)))).toArray 69 (0,0))) (hg:w.grownBy w' (some y.c)) :
  Cor w' (grow own w w' .core) { y with an:=anF y.an (k:Int) } s∧Nx w own w' (grow own w w' .core):=by
 have hc:=(h.ob .core).1;have ho:Only w w' (fun j=>j=y.c):=Only.grown hg (Or.inl rfl);rw [crow_an y _ _ v k hk] at hn;exact h.core (now:=s.now) (last:=s.last) (out:=s.out) (anF y.an (k:Int)) v G (ho.mono (fun j q=>by rw [q];exact hc)) hn (h2.kept ho (fun g e=>(h3 g e).2)) (fun g e=>⟨Or.inl (h3 g e).1,(h3 g e).2⟩)
def Cr (w:World) (own:Nat→Option Tag) (c:Nat) (an:Int→Int) (s:St):Prop :=
 (∃ y,y.c=c∧y.an=an∧Cor w own y s)∨(Raw w c∧s=St.zero∧an=(fun _=>0)∧own=fun j=>if j=c then some .core else none)
theorem Cr.below {w w':World} {own:Nat→Option Tag} {c:Nat} {an:Int→Int} {s:St} (h:Cr w own c an s) (hb:Below w.heap.size w w'):Cr w' own c an s:=by
 rcases h with ⟨y,h1,h2,h3⟩ | ⟨h1,h2,h3,h4⟩
 ·exact Or.inl ⟨y,h1,h2,h3.below hb⟩
 ·exact Or.inr ⟨(Only.of_below (S:=fun _=>False) hb).blk (fun q=>q) h1,h2,h3,h4⟩
theorem Cr.side {w w':World} {own:Nat→Option Tag} {c:Nat} {an:Int→Int} {s:St} {S:Nat→Prop} (h:Cr w own c an s) (ho:Only w w' S) (hS:∀ j,S j→own j=none):Cr w' own c an s:=by
 rcases h with ⟨y,h1,h2,h3⟩ | ⟨h1,h2,h3,h4⟩
 ·exact Or.inl ⟨y,h1,h2,h3.side ho hS⟩
 ·exact Or.inr ⟨ho.blk (fun q=>by have:=hS _ q;rw [h4] at this;simp at this) h1,h2,h3,h4⟩
theorem Cr.fresh {w:World} {own:Nat→Option Tag} {c:Nat} {an:Int→Int} {s:St} (h:Cr w own c an s) {j:Nat} (hj:w.heap.size≤j):own j=none:=by
 rcases h with ⟨y,h1,h2,h3⟩ | ⟨h1,h2,h3,h4⟩
 ·exact h3.fresh hj
 ·rw [h4];exact if_neg (fun q=>by have:=lt_of_row h1;omega)
theorem Cr.blk {w:World} {own:Nat→Option Tag} {c:Nat} {an:Int→Int} {s:St} (h:Cr w own c an s):own c=some .core:=by
 rcases h with ⟨y,h1,h2,h3⟩ | ⟨h1,h2,h3,h4⟩
 ·rw [←h1];exact (h3.ob .core).1
 ·rw [h4];exact if_pos rfl
theorem Cr.lt {w:World} {own:Nat→Option Tag} {c:Nat} {an:Int→Int} {s:St} (h:Cr w own c an s) {j:Nat} (hj:own j≠none):j<w.heap.size :=
 Nat.lt_of_not_le (fun q=>hj (h.fresh q))
theorem c_readyR {w:World} {own:Nat→Option Tag} {c:Nat} {an:Int→Int} {s:St} (h:Cr w own c an s):Calls Tryz.prog 16 #[ptr c] w fun e w'=>e=.returned (.tuple #[])∧∃ y own',y.c=c∧y.an=an∧Cor w' own' y s∧Nx w own w' own':=by
 rcases h with ⟨y,rfl,rfl,h3⟩ | ⟨h1,rfl,rfl,h4⟩
 ·refine (c_readyC h3).mono ?_
  rintro e w' ⟨rfl,rfl⟩;exact ⟨rfl,y,own,rfl,rfl,h3,Nx.refl _ _⟩
 ·refine (c_ready0 h1).mono ?_
  rintro e w' ⟨rfl,l,mb,mf,h,mp,mx,ma,t,R⟩;obtain ⟨own',hC,hO⟩:=R.cor;refine ⟨rfl,_,own',rfl,rfl,hC,⟨R.only.mono (fun j q=>by rw [q,h4];simp),fun j q=>(hO j q).imp (fun e=>by rw [e,h4];simp) id⟩⟩
end Go.Proofs.YthdengocipfgiaaGreat.W.C
