import Derived.Test.YthdengocipfgiaaGreatRows
import Derived.Test.YthdengocipfgiaaGreatCaA
/- A part of what core's laws stand on. -/
set_option linter.unusedVariables false
set_option linter.unusedSimpArgs false
set_option maxRecDepth 100000
set_option maxHeartbeats 800000
namespace Go.Proofs.YthdengocipfgiaaGreat.W
open Go.RowKit
theorem sizeInt:(Tryz.prog.info? 3).map (·.size)=some 1:=by kernel_rfl
theorem sizeRow:(Tryz.prog.info? 211).map (·.size)=some 240:=by kernel_rfl
theorem wpList_box_agg {P:Program} {w:World} {ops:Array Oper} {rest:List Oper} {o:Oper} {a:Act} {Q:Exit→Act→World→Prop} (hgd:o.guard=none) (t:TypeId) (x:Operand) (ho:o.op=.box t x) (cs:Array Value) (hx:a.eval x=.agg cs)
  (h:wpList P ops Q rest (a.put o.dst (.pointer (some ⟨w.heap.size,0,none⟩))) (w.alloc (.cells cs t))):wpList P ops Q (o :: rest) a w:=by
 refine wpList_plain hgd fun K hK=>?_
 have hrun:(Instr.box t (.agg cs)).run P w=.ok (.pointer (some ⟨w.heap.size,0,none⟩)) (w.alloc (.cells cs t)):=by
  simp [Instr.box,newVar,newRow,Value.cells]
 unfold Oper.wp execOp;simp only [ho,hx,hrun,Sem.run_bind,Sem.run_pure,Result.andThen];exact hK _ _ h
theorem wpList_build_zero {P:Program} {w:World} {ops:Array Oper} {rest:List Oper} {o:Oper} {a:Act} {Q:Exit→Act→World→Prop} (hgd:o.guard=none) (t:TypeId) (ho:o.op=.build t #[]) (cs:Array Value) (hb:P.built t []=some cs)
  (h:wpList P ops Q rest (a.put o.dst (.agg cs)) w):wpList P ops Q (o :: rest) a w:=by
 refine wpList_plain hgd fun K hK=>?_;have hrun:=run_build (P:=P) w t #[] cs hb;unfold Oper.wp execOp;simp only [ho,List.map_toArray,List.map_nil,hrun,Sem.run_bind,Sem.run_pure,Result.andThen];exact hK _ _ h
def Hs (w:World) (r:Nat) (F:Nat→Nat) (o:Nat):Prop :=
 tot F+o<4096∧w.heap[r]?=some (.cells (bins F ++ [Value.int .i64 (tot F:Int),Value.int .i64 (o:Int)]).toArray 213 (0,0))
theorem Hs.lt {w:World} {r o:Nat} {F:Nat→Nat} (h:Hs w r F o):r<w.heap.size:=lt_of_row h.2
theorem Hs.keep {w w':World} {r o:Nat} {F:Nat→Nat} {B:Nat} (h:Hs w r F o) (hb:Below B w w') (hr:r<B):Hs w' r F o:=⟨h.1,by rw [hb.block r hr];exact h.2⟩
theorem Hs.off {w w':World} {r q o:Nat} {F:Nat→Nat} (h:Hs w r F o) (hb:w.grownBy w' (some q)) (hr:r≠q):Hs w' r F o :=
 ⟨h.1,by rw [hb.block r h.lt (by simpa using hr)];exact h.2⟩
theorem Hs.drewN {w:World} {r o:Nat} {F:Nat→Nat} (h:Hs w r F o) (n:Nat):Hs (w.drewN n) r F o:=h
theorem two_at (F:Nat→Nat) (u v:Value):(bins F ++ [u,v])[240]?=some u∧(bins F ++ [u,v])[241]?=some v:=by
 constructor
 ·rw [List.getElem?_append_right (by rw [bins_len];exact Nat.le_refl _),bins_len];rfl
 ·rw [List.getElem?_append_right (by rw [bins_len];omega),bins_len];rfl
theorem Hs.cellIn {w:World} {r o:Nat} {F:Nat→Nat} (h:Hs w r F o):w.cell? ⟨r,240,none⟩=some (.int .i64 (tot F:Int)):=cellL h.2 240 _ (two_at F _ _).1
theorem Hs.cellOver {w:World} {r o:Nat} {F:Nat→Nat} (h:Hs w r F o):w.cell? ⟨r,241,none⟩=some (.int .i64 (o:Int)):=cellL h.2 241 _ (two_at F _ _).2
theorem Hs.cellBin {w:World} {r o:Nat} {F:Nat→Nat} (h:Hs w r F o) {j:Nat} (hj:j<240):w.cell? ⟨r,j,none⟩=some (.int .i64 (F j:Int)) :=
 cellL h.2 j _ (by rw [List.getElem?_append_left (by rw [bins_len];exact hj)];exact bins_at F hj)
theorem built_new:Tryz.prog.built 213 []=some (List.replicate 242 (.int .i64 0)).toArray:=by kernel_rfl
theorem histo_new (w:World):Calls Tryz.prog 121 #[] w fun e w'=>e=.returned (.pointer (some ⟨w.heap.size,0,none⟩))∧Hs w' w.heap.size (fun _=>0) 0∧Below w.heap.size w w':=by
 go_enter Tryz.func121,Tryz.ntmps121
 have hz:(List.replicate 242 (Value.int .i64 0))=bins (fun _=>0) ++ [Value.int .i64 ((tot (fun _=>0):Nat):Int),Value.int .i64 ((0:Nat):Int)]:=by
  rw [bins_zero,tot,sumTo_zero];rfl
 obtain ⟨C,hC⟩:∃ C,(List.replicate 242 (Value.int .i64 0)).toArray=C:=⟨_,rfl⟩;have HC:=Lib.hid hC;have HZ:=Lib.hid hz;clear hC hz
 go_wp2_with (first
  | (with_reducible refine wpList_build_zero rfl 213 rfl C (by rw [←HC.out];exact built_new) ?_)
  | (with_reducible refine wpList_box_agg rfl 213 (.tmp 1) rfl C rfl ?_))
 go_ret
 refine ⟨rfl,⟨by rw [tot,sumTo_zero];omega,?_⟩,(Below.refl _ _).alloc (Nat.le_refl _) _⟩
 rw [heap_alloc_new,←HC.out,HZ.out]
theorem histo_in (r o:Nat) (F:Nat→Nat) (w:World) (h:Hs w r F o) :
  Calls Tryz.prog 168 #[.pointer (some ⟨r,0,none⟩)] w fun e w'=>e=.returned (.int .i64 (tot F:Int))∧w=w':=by
 have h3:=h.cellIn;have H:=Lib.hid h;clear h
 go_enter Tryz.func168,Tryz.ntmps168
 go_wp2
 go_ret
 exact ⟨rfl,rfl⟩
theorem histo_over (r o:Nat) (F:Nat→Nat) (w:World) (h:Hs w r F o) :
  Calls Tryz.prog 167 #[.pointer (some ⟨r,0,none⟩)] w fun e w'=>e=.returned (.int .i64 (o:Int))∧w=w':=by
 have h3:=h.cellOver;have H:=Lib.hid h;clear h
 go_enter Tryz.func167,Tryz.ntmps167
 go_wp2
 go_ret
 exact ⟨rfl,rfl⟩
abbrev rowH (F:Nat→Nat) (i o:Int):List Value:=bins F ++ [Value.int .i64 i,Value.int .i64 o]
theorem rowH_len (F:Nat→Nat) (i o:Int):(rowH F i o).length=242:=by simp [bins_len]
theorem rowH_in (F:Nat→Nat) (i o i':Int):(rowH F i o).set 240 (.int .i64 i')=rowH F i' o:=by
 unfold rowH;rw [List.set_append_right _ _ (by rw [bins_len];exact Nat.le_refl _),bins_len];rfl
theorem rowH_over (F:Nat→Nat) (i o o':Int):(rowH F i o).set 241 (.int .i64 o')=rowH F i o':=by
 unfold rowH;rw [List.set_append_right _ _ (by rw [bins_len];omega),bins_len];rfl
theorem rowH_bin (F G:Nat→Nat) (i o:Int) {j:Nat} (h:j<240) (x:Int) (hx:x=(G j:Int)) (ho:∀ k,k<240→k≠j→G k=F k):(rowH F i o).set j (.int .i64 x)=rowH G i o:=by
 unfold rowH;rw [List.set_append_left _ _ (by rw [bins_len];exact h),bins_set F G h x hx ho]
def mix (F:Nat→Nat) (i:Nat):Nat→Nat:=fun j=>if j<i then F j / 2 else F j
theorem mix_at (F:Nat→Nat) (i:Nat):mix F (i+1) i=F i / 2:=by simp [mix]
theorem mix_other (F:Nat→Nat) (i:Nat) {k:Nat} (h:k≠i):mix F (i+1) k=mix F i k:=by
 unfold mix
 by_cases q:k<i
 ·rw [if_pos q,if_pos (by omega)]
 ·rw [if_neg q,if_neg (by omega)]
theorem histo_halve (r i o:Nat) (F:Nat→Nat) (w:World) (h:w.heap[r]?=some (.cells (rowH F (i:Int) (o:Int)).toArray 213 (0,0))) (hF:tot F≤4096) (ho:o≤4096) :
  Calls Tryz.prog 143 #[.pointer (some ⟨r,0,none⟩)] w fun e w'=>e=.returned (.tuple #[]) ∧
   w'.heap[r]?=some (.cells (rowH (fun j=>F j / 2) ((tot (fun j=>F j / 2):Nat):Int) ((o / 2:Nat):Int)).toArray 213 (0,0))∧w.grownBy w' (some r):=by
 have H:=Lib.hid h;clear h
 go_enter Tryz.func143,Tryz.ntmps143
 go_wp2_with (first
  | (with_reducible refine wpList_store_in rfl 3 (.tmp 6) (.const (.int .i64 0)) rfl sizeInt r 240 rfl .i64 0 rfl _ _ H.out (by rw [rowH_len];omega) ?_;intro w1 H1 hg1;rw [rowH_in] at H1)
  | (with_reducible refine wpList_load_head rfl 211 (.tmp 9) rfl r rfl (bins F) _ _ _ 240 3 H1.out Tryz.underlying211 (by rw [bins_len];exact sizeRow) ?_))
 have hF2:=sumTo_half F 240;have hF3:sumTo (fun j=>F j / 2) 240≤2048:=by unfold tot at hF;omega
 clear H hF2
 go_loopg [11] 240 (fun gk vi wr=>∃ k:Nat,vi=.int .i64 (k:Int)∧k+gk=240∧Hid (wr.heap[r]?=some (.cells (rowH (mix F k) ((sumTo (fun j=>F j / 2) k:Nat):Int) (o:Int)).toArray 213 (0,0)))∧w.grownBy wr (some r))
 case atStart=>exact ⟨0,rfl,rfl,by rw [show mix F 0=F by funext j;simp [mix]];exact H1,hg1⟩
 case round =>
  clear H1 hg1;obtain ⟨k,rfl,hk,H,hg⟩:=hrel;have HK:=Lib.hid hk;clear hk
  by_cases hlt:k<240
  ·have hFk:F k≤4096:=Nat.le_trans (le_sumTo F hlt) hF
   have hki:(k:Int)<240:=by omega
   obtain ⟨f,hf⟩:∃ f,F k=f:=⟨_,rfl⟩;obtain ⟨S,hS⟩:∃ S,sumTo (fun j=>F j / 2) k=S:=⟨_,rfl⟩;have hS2:S≤2048:=by have:=sumTo_mono (fun j=>F j / 2) (show k≤240 by omega);omega
   have hb:=bins_at F hlt;rw [hf] at hb hFk;rw [hS] at H;have HB:=Lib.hid hb;have HS:=Lib.hid hS;have Hf:=Lib.hid hf;clear hb hS hf
   go_wp2_with (first
    | (with_reducible refine wpList_index_cell rfl 211 (.tmp 10) (.tmp 11) rfl 240 3 Tryz.underlying211 _ Tryz.underlying3 rfl sizeInt (bins F) rfl .i64 k rfl hlt (.int .i64 (f:Int)) HB.out ?_)
    | (with_reducible refine wpList_store_in rfl 3 (.tmp 21) (.tmp 18) rfl sizeInt r k rfl .i64 _ rfl _ _ H.out (by rw [rowH_len];omega) ?_;intro w2 H2 hg2;rw [rowH_bin _ (mix F (k+1)) _ _ hlt _ (by rw [mix_at,Hf.out];omega) (fun j _ hj=>mix_other F k hj)] at H2;have c2:w2.cell? ⟨r,240,none⟩=some (.int .i64 (S:Int)):=cellL H2.out 240 _ (two_at _ _ _).1)
    | (with_reducible refine wpList_store_in rfl 3 (.tmp 30) (.tmp 28) rfl sizeInt r 240 rfl .i64 _ rfl _ _ H2.out (by rw [rowH_len];omega) ?_;intro w3 H3 hg3;rw [rowH_in] at H3;clear c2))
   have hg4:=grown_trans (grown_trans hg hg2) hg3;go_roundg (gk-1)
   case measure=>have:=HK.out;omega
   case rel =>
    refine ⟨k+1,by go_num,by have:=HK.out;omega,?_,hg4⟩
    rw [show sumTo (fun j=>F j / 2) (k+1)=S+f / 2 by simp only [sumTo];rw [HS.out,Hf.out]]
    rw [show (((S+f / 2:Nat)):Int)=(S:Int)+(f:Int) / 2 by omega]
    exact H3
  ·obtain rfl:k=240:=by have:=HK.out;omega
   have e1:rowH (mix F 240) ((sumTo (fun j=>F j / 2) 240:Nat):Int) (o:Int)=rowH (fun j=>F j / 2) ((tot (fun j=>F j / 2):Nat):Int) (o:Int):=by
    unfold rowH tot;rw [bins_ext (F:=mix F 240) (G:=fun j=>F j / 2) (fun j hj=>by simp [mix,hj])]
   rw [e1] at H;have c3:wr.cell? ⟨r,241,none⟩=some (.int .i64 (o:Int)):=cellL H.out 241 _ (two_at _ _ _).2;clear hF3 e1;go_wp2_with (with_reducible refine wpList_store_in rfl 3 (.tmp 38) (.tmp 36) rfl sizeInt r 241 rfl .i64 _ rfl _ _ H.out (by rw [rowH_len];omega) ?_;intro w2 H2 hg2;rw [rowH_over] at H2)
   go_end0
   refine ⟨rfl,?_,grown_trans hg hg2⟩;exact H2.out
theorem wrap_small {x:Int} (h0:-9223372036854775808≤x) (h1:x≤9223372036854775807):IntKind.i64.wrap x=x:=by rw [IntKind.wrap_i64];omega
theorem hs_of {w:World} {r i o:Nat} {F:Nat→Nat} (h:w.heap[r]?=some (.cells (rowH F (i:Int) (o:Int)).toArray 213 (0,0))) (hi:tot F=i) (ho:i+o<4096):Hs w r F o:=by
 subst hi;exact ⟨ho,h⟩
theorem add_in_low (r o n:Nat) (F:Nat→Nat) (w:World) (h:Hs w r F o) (hn:n<240) (hl:tot F+o+1<4096) :
  Calls Tryz.prog 107 #[.pointer (some ⟨r,0,none⟩),.int .i64 (n:Int)] w fun e w'=>e=.returned (.tuple #[])∧Hs w' r (aF F (n:Int)) (aO o (n:Int))∧w.grownBy w' (some r):=by
 have c0:=h.cellBin hn;have hlt:=h.1;have hfn:F n≤4096:=by have:=le_sumTo F hn;unfold tot at hlt;omega
 have H:=Lib.hid h.2;obtain ⟨T,hT⟩:∃ T,tot F=T:=⟨_,rfl⟩;have hT1:tot (aF F (n:Int))=T+1:=by rw [tot_in (by omega) (by omega),hT]
 have ho1:aO o (n:Int)=o:=by unfold aO;rw [if_neg (by omega)];rfl
 rw [hT] at hlt H;obtain ⟨f,hf⟩:∃ f,F n=f:=⟨_,rfl⟩;rw [hf] at c0 hfn;have hni:(n:Int)<240:=by omega
 have HT1:=Lib.hid hT1;have HO1:=Lib.hid ho1;have Hf:=Lib.hid hf;rw [hT] at hl;have hw:IntKind.i64.wrap ((T:Int)+1+(o:Int))=(T:Int)+1+(o:Int):=wrap_small (by omega) (by omega)
 have hdl:decide ((4096:Int)≤(T:Int)+1+(o:Int))=false:=by simp;omega
 clear h hT hT1 ho1 hf
 go_enter Tryz.func107,Tryz.ntmps107
 go_wp2
 go_still_tail 10,(by kernel_rfl)
 change wpList _ _ _ _ _ w.drew;have hd:=grown_drew (World.grownBy.refl w (some r));have H1:Hid (w.drew.heap[r]?=_):=H;generalize w.drew=w1 at hd H1 ⊢;refine wpList_store_in rfl 3 (.tmp 17) (.tmp 14) rfl sizeInt r n rfl .i64 _ rfl _ _ H1.out (by rw [rowH_len];omega) ?_
 intro w2 H2 hg2;rw [rowH_bin F (aF F (n:Int)) _ _ hn _ (by unfold aF;rw [Hf.out,if_pos rfl,wrap_small (by omega) (by omega)];rfl) (fun k _ hk=>by unfold aF;rw [if_neg (by omega),Nat.add_zero])] at H2
 have c2:w2.cell? ⟨r,240,none⟩=some (.int .i64 (T:Int)):=cellL H2.out 240 _ (two_at _ _ _).1;have hg3:=grown_trans hd hg2;clear c0 H H1 hd hg2;go_wp2_with (with_reducible refine wpList_store_in rfl 3 (.tmp 24) (.tmp 22) rfl sizeInt r 240 rfl .i64 _ rfl _ _ H2.out (by rw [rowH_len];omega) ?_;intro w3 H3 hg4;rw [rowH_in] at H3;clear c2)
 have hg5:=grown_trans hg3 hg4;have c3:w3.cell? ⟨r,240,none⟩=some (.int .i64 ((T:Int)+1)):=cellL H3.out 240 _ (two_at _ _ _).1;have c4:w3.cell? ⟨r,241,none⟩=some (.int .i64 (o:Int)):=cellL H3.out 241 _ (two_at _ _ _).2;clear H2 hg3 hg4
 go_quiet (fail)
 go_wp2_with fail
 go_end0
 refine ⟨rfl,?_,grown_trans hg5 (grown_drewN _ _ _)⟩;rw [HO1.out];exact hs_of (i:=T+1) H3.out HT1.out (by omega)
theorem add_over_low (r o:Nat) (x:Int) (F:Nat→Nat) (w:World) (h:Hs w r F o) (hx:240≤x) (hl:tot F+o+1<4096) :
  Calls Tryz.prog 107 #[.pointer (some ⟨r,0,none⟩),.int .i64 x] w fun e w'=>e=.returned (.tuple #[])∧Hs w' r (aF F x) (aO o x)∧w.grownBy w' (some r):=by
 have c0:=h.cellOver;have hlt:=h.1;have H:=Lib.hid h.2;obtain ⟨T,hT⟩:∃ T,tot F=T:=⟨_,rfl⟩;have hT1:tot (aF F x)=T:=by rw [tot_out (Or.inr hx),hT]
 have ho1:aO o x=o+1:=by unfold aO;rw [if_pos hx]
 have hbF:bins F=bins (aF F x):=bins_ext fun j hj=>by unfold aF;rw [if_neg (by omega),Nat.add_zero]
 rw [hT] at hlt H;have HT1:=Lib.hid hT1;have HO1:=Lib.hid ho1;have HF:=Lib.hid hbF;rw [hT] at hl;have hw:IntKind.i64.wrap ((T:Int)+((o:Int)+1))=(T:Int)+((o:Int)+1):=wrap_small (by omega) (by omega)
 have hdl:decide ((4096:Int)≤(T:Int)+((o:Int)+1))=false:=by simp;omega
 have hx0:0≤x:=by omega
 clear h hT hT1 ho1 hbF
 go_enter Tryz.func107,Tryz.ntmps107
 go_wp2_with (with_reducible refine wpList_store_in rfl 3 (.tmp 31) (.tmp 29) rfl sizeInt r 241 rfl .i64 _ rfl _ _ H.out (by rw [rowH_len];omega) ?_;intro w3 H3 hg5;rw [rowH_over] at H3;clear c0)
 have c3:w3.cell? ⟨r,240,none⟩=some (.int .i64 (T:Int)):=cellL H3.out 240 _ (two_at _ _ _).1;have c4:w3.cell? ⟨r,241,none⟩=some (.int .i64 ((o:Int)+1)):=cellL H3.out 241 _ (two_at _ _ _).2;clear H
 go_quiet (fail)
 go_wp2_with fail
 go_end0
 refine ⟨rfl,?_,grown_trans hg5 (grown_drewN _ _ _)⟩;rw [HO1.out];refine hs_of (i:=T) ?_ HT1.out (by omega)
 unfold rowH;rw [←HF.out];exact H3.out
theorem add_in_full (r o n:Nat) (F:Nat→Nat) (w:World) (h:Hs w r F o) (hn:n<240) (hl:tot F+o+1=4096) :
  Calls Tryz.prog 107 #[.pointer (some ⟨r,0,none⟩),.int .i64 (n:Int)] w fun e w'=>e=.returned (.tuple #[])∧Hs w' r (fun j=>aF F (n:Int) j / 2) (aO o (n:Int) / 2)∧w.grownBy w' (some r):=by
 have c0:=h.cellBin hn;have hlt:=h.1;have hfn:F n≤4096:=by have:=le_sumTo F hn;unfold tot at hlt;omega
 have H:=Lib.hid h.2;obtain ⟨T,hT⟩:∃ T,tot F=T:=⟨_,rfl⟩;have hT1:tot (aF F (n:Int))=T+1:=by rw [tot_in (by omega) (by omega),hT]
 have ho1:aO o (n:Int)=o:=by unfold aO;rw [if_neg (by omega)];rfl
 rw [hT] at hlt H;obtain ⟨f,hf⟩:∃ f,F n=f:=⟨_,rfl⟩;rw [hf] at c0 hfn;have hni:(n:Int)<240:=by omega
 have HT1:=Lib.hid hT1;have HO1:=Lib.hid ho1;have Hf:=Lib.hid hf;rw [hT] at hl;have hw:IntKind.i64.wrap ((T:Int)+1+(o:Int))=(T:Int)+1+(o:Int):=wrap_small (by omega) (by omega)
 have hdl:(4096:Int)≤(T:Int)+1+(o:Int):=by omega
 have HL:=Lib.hid hl;clear hl;clear h hT hT1 ho1 hf
 go_enter Tryz.func107,Tryz.ntmps107
 go_wp2
 go_still_tail 10,(by kernel_rfl)
 change wpList _ _ _ _ _ w.drew;have hd:=grown_drew (World.grownBy.refl w (some r));have H1:Hid (w.drew.heap[r]?=_):=H;generalize w.drew=w1 at hd H1 ⊢;refine wpList_store_in rfl 3 (.tmp 17) (.tmp 14) rfl sizeInt r n rfl .i64 _ rfl _ _ H1.out (by rw [rowH_len];omega) ?_
 intro w2 H2 hg2;rw [rowH_bin F (aF F (n:Int)) _ _ hn _ (by unfold aF;rw [Hf.out,if_pos rfl,wrap_small (by omega) (by omega)];rfl) (fun k _ hk=>by unfold aF;rw [if_neg (by omega),Nat.add_zero])] at H2
 have c2:w2.cell? ⟨r,240,none⟩=some (.int .i64 (T:Int)):=cellL H2.out 240 _ (two_at _ _ _).1;have hg3:=grown_trans hd hg2;clear c0 H H1 hd hg2;go_wp2_with (with_reducible refine wpList_store_in rfl 3 (.tmp 24) (.tmp 22) rfl sizeInt r 240 rfl .i64 _ rfl _ _ H2.out (by rw [rowH_len];omega) ?_;intro w3 H3 hg4;rw [rowH_in] at H3;clear c2)
 have hg5:=grown_trans hg3 hg4;have c3:w3.cell? ⟨r,240,none⟩=some (.int .i64 ((T:Int)+1)):=cellL H3.out 240 _ (two_at _ _ _).1;have c4:w3.cell? ⟨r,241,none⟩=some (.int .i64 (o:Int)):=cellL H3.out 241 _ (two_at _ _ _).2;clear H2 hg3 hg4
 go_quiet (fail)
 go_wp2_with fail
 refine (histo_halve r (T+1) o (aF F (n:Int)) (w3.drewN nq) H3.out (by rw [HT1.out];omega) (by omega)).mono ?_
 rintro e w4 ⟨rfl,h4,hg6⟩;go_wp2_with fail
 go_end0
 refine ⟨rfl,?_,grown_trans hg5 (grown_trans (grown_drewN _ _ _) hg6)⟩;rw [HO1.out];exact hs_of h4 rfl (by have:=sumTo_half (aF F (n:Int)) 240;have h1:=HT1.out;unfold tot at h1 ⊢;omega)
theorem add_over_full (r o:Nat) (x:Int) (F:Nat→Nat) (w:World) (h:Hs w r F o) (hx:240≤x) (hl:tot F+o+1=4096) :
  Calls Tryz.prog 107 #[.pointer (some ⟨r,0,none⟩),.int .i64 x] w fun e w'=>e=.returned (.tuple #[])∧Hs w' r (fun j=>aF F x j / 2) (aO o x / 2)∧w.grownBy w' (some r):=by
 have c0:=h.cellOver;have hlt:=h.1;have H:=Lib.hid h.2;obtain ⟨T,hT⟩:∃ T,tot F=T:=⟨_,rfl⟩;have hT1:tot (aF F x)=T:=by rw [tot_out (Or.inr hx),hT]
 have ho1:aO o x=o+1:=by unfold aO;rw [if_pos hx]
 have hbF:bins F=bins (aF F x):=bins_ext fun j hj=>by unfold aF;rw [if_neg (by omega),Nat.add_zero]
 rw [hT] at hlt H;have HT1:=Lib.hid hT1;have HO1:=Lib.hid ho1;have HF:=Lib.hid hbF;rw [hT] at hl;have hw:IntKind.i64.wrap ((T:Int)+((o:Int)+1))=(T:Int)+((o:Int)+1):=wrap_small (by omega) (by omega)
 have hdl:(4096:Int)≤(T:Int)+((o:Int)+1):=by omega
 have HL:=Lib.hid hl;clear hl;have hx0:0≤x:=by omega
 clear h hT hT1 ho1 hbF
 go_enter Tryz.func107,Tryz.ntmps107
 go_wp2_with (with_reducible refine wpList_store_in rfl 3 (.tmp 31) (.tmp 29) rfl sizeInt r 241 rfl .i64 _ rfl _ _ H.out (by rw [rowH_len];omega) ?_;intro w3 H3 hg5;rw [rowH_over] at H3;clear c0)
 have c3:w3.cell? ⟨r,240,none⟩=some (.int .i64 (T:Int)):=cellL H3.out 240 _ (two_at _ _ _).1;have c4:w3.cell? ⟨r,241,none⟩=some (.int .i64 ((o:Int)+1)):=cellL H3.out 241 _ (two_at _ _ _).2;clear H
 go_quiet (fail)
 go_wp2_with fail
 refine (histo_halve r T (o+1) (aF F x) (w3.drewN nq) (by unfold rowH;rw [←HF.out];exact H3.out) (by rw [HT1.out];omega) (by omega)).mono ?_
 rintro e w4 ⟨rfl,h4,hg6⟩;go_wp2_with fail
 go_end0
 refine ⟨rfl,?_,grown_trans hg5 (grown_trans (grown_drewN _ _ _) hg6)⟩;rw [HO1.out];exact hs_of h4 rfl (by have:=sumTo_half (aF F x) 240;have h1:=HT1.out;unfold tot at h1 ⊢;omega)
theorem add_neg (r o:Nat) (x:Int) (F:Nat→Nat) (w:World) (h:Hs w r F o) (hx:x<0) :
  Calls Tryz.prog 107 #[.pointer (some ⟨r,0,none⟩),.int .i64 x] w fun e w'=>e=.returned (.tuple #[])∧Hs w' r (aF F x) (aO o x)∧w.grownBy w' (some r):=by
 have hT1:tot (aF F x)=tot F:=tot_out (Or.inl hx);have ho1:aO o x=o:=by unfold aO;rw [if_neg (by omega)];rfl
 have hbF:bins F=bins (aF F x):=bins_ext fun j hj=>by unfold aF;rw [if_neg (by omega),Nat.add_zero]
 have hH:Hs w r (aF F x) (aO o x):=⟨by rw [hT1,ho1];exact h.1,by rw [hT1,ho1,←hbF];exact h.2⟩
 clear hT1 ho1 hbF h
 go_enter Tryz.func107,Tryz.ntmps107
 go_wp2
 first | go_end0 | refine bodyPost_ret (results_none rfl _ _ _) rfl ?_
 exact ⟨rfl,hH,World.grownBy.refl _ _⟩
theorem ret_cut {a b:Nat} {x y:Bool} (h1:a=b) (h2:x=y):Ending.returned (.tuple #[.int .i64 (a:Int),.bool x])=.returned (.tuple #[.int .i64 (b:Int),.bool y]):=by rw [h1,h2]
theorem not_okC_zero {F:Nat→Nat} {P j:Nat} (h:tot F=0) (hj:j<240):¬ okC F P j:=by
 intro hk;have:=sumTo_mono F (show j+1≤240 by omega)
 have h1:=hk.1;unfold tot at h;omega
theorem cut_any (r o:Nat) (F:Nat→Nat) (p:Int) (w:World) (h:Hs w r F o) :
  Calls Tryz.prog 188 #[.pointer (some ⟨r,0,none⟩),.int .i64 p] w fun e w' =>
   e=.returned (.tuple #[.int .i64 ((cutN F (clampP p):Nat):Int),.bool (decide (0<tot F))])∧w=w':=by
 have hlt:=h.1;have c0:=h.cellIn;have H:=Lib.hid h.2;obtain ⟨T,hT⟩:∃ T,tot F=T:=⟨_,rfl⟩;rw [hT] at hlt c0 H;have HT:=Lib.hid hT;clear h hT
 by_cases hz:T=0
 ·subst hz
  have E:=Lib.hid (cutN_none (F:=F) (P:=clampP p) (fun j hj=>not_okC_zero HT.out hj))
  go_enter Tryz.func188,Tryz.ntmps188
  go_wp2
  go_ret2
  exact ⟨ret_cut (a:=0) E.out.symm (by rw [HT.out];rfl),rfl⟩
 ·obtain ⟨P,hP⟩:∃ P,clampP p=P:=⟨_,rfl⟩
  have hP1:P≤100:=by rw [←hP];exact clampP_le p
  obtain ⟨m,hm⟩:∃ m,m=max p 0:=⟨_,rfl⟩;have hP2:(P:Int)=min m 100:=by rw [←hP,hm];exact clampP_int p
  have hdz:((T:Int) == 0)=false:=by simp;omega
  have HP:=Lib.hid hP;have HP2:=Lib.hid hP2;have HM:=Lib.hid hm;clear hP hP2 hm
  go_enter Tryz.func188,Tryz.ntmps188
  go_wp2_with (first
   | (with_reducible refine wpList_max_to rfl (.tmp 14) (.const (.int .i64 0)) 3 3 rfl .i64 .i64 p 0 m rfl rfl HM.out ?_)
   | (with_reducible refine wpList_min_to rfl (.tmp 15) (.const (.int .i64 100)) 3 3 rfl .i64 .i64 m 100 (P:Int) rfl rfl HP2.out ?_)
   | (with_reducible refine wpList_load_head rfl 211 (.tmp 19) rfl r rfl (bins F) _ _ _ 240 3 H.out Tryz.underlying211 (by rw [bins_len];exact sizeRow) ?_))
  clear HP2 HM hdz
  go_loopg [6,21] 240 (fun gk vb vi wr=>∃ k:Nat,vi=.int .i64 (k:Int)∧vb=.int .i64 ((sumTo F k:Nat):Int)∧k+gk=240∧Hid (∀ j,j<k→¬ okC F P j)∧w=wr)
  case atStart=>exact ⟨0,rfl,rfl,rfl,Lib.hid (by intro j hj;omega),rfl⟩
  case round =>
   obtain ⟨k,rfl,rfl,hk,HJ,rfl⟩:=hrel;have HK:=Lib.hid hk;clear hk
   by_cases hlt2:k<240
   ·have hki:(k:Int)<240:=by omega
    obtain ⟨f,hf⟩:∃ f,F k=f:=⟨_,rfl⟩;obtain ⟨S,hS⟩:∃ S,sumTo F k=S:=⟨_,rfl⟩;have hS1:sumTo F (k+1)=S+f:=by simp only [sumTo];rw [hS,hf]
    have hS2:S+f≤T:=by rw [←hS1,←HT.out];exact sumTo_mono F (by omega)
    have hb:=bins_at F hlt2;rw [hf] at hb;rw [hS];have HB:=Lib.hid hb;have HS1:=Lib.hid hS1;have hPT:P*T≤100*T:=Nat.mul_le_mul_right _ hP1;have hPi:((P*T:Nat):Int)=(P:Int)*(T:Int):=Int.natCast_mul _ _;have hw:(P:Int)*(T:Int)≤409600:=by omega
    have hw0:0≤(P:Int)*(T:Int):=by omega
    have HPi:=Lib.hid hPi;clear hb hS hf hS1 hPi hPT
    by_cases hpos:0<S+f
    ·have hpd:decide ((0:Int)<(S:Int)+(f:Int))=true:=by simp;omega
     by_cases hok:P*T≤(S+f)*100
     ·have hoi:(P:Int)*(T:Int)≤((S:Int)+(f:Int))*100:=by rw [←HPi.out];omega
      have HE:=Lib.hid (cutN_is (F:=F) (P:=P) (c:=k) ⟨by rw [HS1.out];exact hpos,by rw [HS1.out,HT.out];exact hok⟩ hlt2 HJ.out)
      go_wp2_with (with_reducible refine wpList_index_cell rfl 211 (.tmp 20) (.tmp 21) rfl 240 3 Tryz.underlying211 _ Tryz.underlying3 rfl sizeInt (bins F) rfl .i64 k rfl hlt2 (.int .i64 (f:Int)) HB.out ?_)
      go_ret2
      exact ⟨ret_cut (by rw [HP.out,HE.out]) (by rw [HT.out];simp;omega),rfl⟩
     ·have hoi:decide ((P:Int)*(T:Int)≤((S:Int)+(f:Int))*100)=false:=by rw [←HPi.out];simp;omega
      go_wp2_with (with_reducible refine wpList_index_cell rfl 211 (.tmp 20) (.tmp 21) rfl 240 3 Tryz.underlying211 _ Tryz.underlying3 rfl sizeInt (bins F) rfl .i64 k rfl hlt2 (.int .i64 (f:Int)) HB.out ?_)
      go_roundg (gk-1)
      case measure=>have:=HK.out;omega
      case rel =>
       refine ⟨k+1,by go_num,by rw [HS1.out];rfl,by have:=HK.out;omega,Lib.hid ?_,rfl⟩
       intro j hj
       rcases Nat.lt_or_ge j k with q | q
       ·exact HJ.out j q
       ·obtain rfl:j=k:=by omega
        intro hq;have:=hq.2;rw [HS1.out,HT.out] at this;omega
    ·have hpd:decide ((0:Int)<(S:Int)+(f:Int))=false:=by simp;omega
     go_wp2_with (with_reducible refine wpList_index_cell rfl 211 (.tmp 20) (.tmp 21) rfl 240 3 Tryz.underlying211 _ Tryz.underlying3 rfl sizeInt (bins F) rfl .i64 k rfl hlt2 (.int .i64 (f:Int)) HB.out ?_)
     go_roundg (gk-1)
     case measure=>have:=HK.out;omega
     case rel =>
      refine ⟨k+1,by go_num,by rw [HS1.out];rfl,by have:=HK.out;omega,Lib.hid ?_,rfl⟩
      intro j hj
      rcases Nat.lt_or_ge j k with q | q
      ·exact HJ.out j q
      ·obtain rfl:j=k:=by omega
       intro hq;have:=hq.1;rw [HS1.out] at this;omega
   ·exact absurd (okC_last (F:=F) (P:=P) (by rw [HT.out];omega) hP1) (HJ.out 239 (by have:=HK.out;omega))
def sq (F:Nat→Nat):Nat→Nat:=fun j=>F j*F j
theorem sq_le (F:Nat→Nat) {k T:Nat} (hk:k≤240) (hT:tot F=T) (hl:T<4096):sumTo (sq F) k≤16777216:=by
 have h1:=sumTo_mono (sq F) hk;have h2:=sumTo_sq F 240;have h3:sumTo F 240*sumTo F 240≤4096*4096:=by unfold tot at hT;rw [hT];exact Nat.mul_le_mul (by omega) (by omega)
 unfold sq at *;omega
theorem spread_is {F:Nat→Nat} {T Q:Nat} (hT:tot F=T) (hQ:sumTo (sq F) 240=Q):spreadB F=decide (0<T∧5*T*T≤240*Q):=by
 unfold spreadB;unfold sq at hQ;rw [hT,hQ]
theorem spread_any (r o:Nat) (F:Nat→Nat) (w:World) (h:Hs w r F o) :
  Calls Tryz.prog 173 #[.pointer (some ⟨r,0,none⟩)] w fun e w'=>e=.returned (.bool (spreadB F))∧∃ n,w'=w.drewN n:=by
 have hlt:=h.1;have c0:=h.cellIn;have H:=Lib.hid h.2;obtain ⟨T,hT⟩:∃ T,tot F=T:=⟨_,rfl⟩;rw [hT] at hlt c0 H;have HT:=Lib.hid hT;clear h hT;obtain ⟨Q,hQ⟩:∃ Q,sumTo (sq F) 240=Q:=⟨_,rfl⟩;have E:=Lib.hid (spread_is HT.out hQ);have hQ1:Q≤16777216:=by rw [←hQ];exact sq_le F (Nat.le_refl _) HT.out (by omega)
 have HQ:=Lib.hid hQ;clear hQ
 by_cases hz:T=0
 ·subst hz
  go_enter Tryz.func173,Tryz.ntmps173
  go_wp2
  go_ret
  exact ⟨ret_bool (by rw [E.out];simp),0,rfl⟩
 ·have hdz:((T:Int) == 0)=false:=by simp;omega
  go_enter Tryz.func173,Tryz.ntmps173
  go_wp2_with (with_reducible refine wpList_load_head rfl 211 (.tmp 13) rfl r rfl (bins F) _ _ _ 240 3 H.out Tryz.underlying211 (by rw [bins_len];exact sizeRow) ?_)
  clear hdz
  go_loopg [3,15] 240 (fun gk vb vi wr=>∃ k:Nat,vi=.int .i64 (k:Int)∧vb=.int .i64 ((sumTo (sq F) k:Nat):Int)∧k+gk=240∧w=wr)
  case atStart=>exact ⟨0,rfl,rfl,rfl,rfl⟩
  case round =>
   obtain ⟨k,rfl,rfl,hk,rfl⟩:=hrel;have HK:=Lib.hid hk;clear hk
   by_cases hlt2:k<240
   ·have hki:(k:Int)<240:=by omega
    obtain ⟨f,hf⟩:∃ f,F k=f:=⟨_,rfl⟩;obtain ⟨S,hS⟩:∃ S,sumTo (sq F) k=S:=⟨_,rfl⟩;have hS1:sumTo (sq F) (k+1)=S+f*f:=by simp only [sumTo];rw [hS];unfold sq;rw [hf]
    have hS2:S+f*f≤16777216:=by rw [←hS1];exact sq_le F (by omega) HT.out (by omega)
    have hff:((f*f:Nat):Int)=(f:Int)*(f:Int):=Int.natCast_mul _ _;have hff0:0≤(f:Int)*(f:Int):=by omega
    have hff1:(S:Int)+(f:Int)*(f:Int)≤16777216:=by omega
    have hff2:(f:Int)*(f:Int)≤16777216:=by omega
    have hb:=bins_at F hlt2;rw [hf] at hb;rw [hS];have HB:=Lib.hid hb;have HS1:=Lib.hid hS1;have HFF:=Lib.hid hff;clear hb hS hf hS1 hff hS2;go_wp2_with (with_reducible refine wpList_index_cell rfl 211 (.tmp 14) (.tmp 15) rfl 240 3 Tryz.underlying211 _ Tryz.underlying3 rfl sizeInt (bins F) rfl .i64 k rfl hlt2 (.int .i64 (f:Int)) HB.out ?_)
    go_roundg (gk-1)
    case measure=>have:=HK.out;omega
    case rel=>exact ⟨k+1,by go_num,by rw [HS1.out,Int.natCast_add,HFF.out],by have:=HK.out;omega,rfl⟩
   ·obtain rfl:k=240:=by have:=HK.out;omega
    rw [HQ.out];have hTT:T*T≤4096*4096:=Nat.mul_le_mul (by omega) (by omega)
    have hTi:((T*T:Nat):Int)=(T:Int)*(T:Int):=Int.natCast_mul _ _;have e5:(5*(T:Int))*(T:Int)=5*((T*T:Nat):Int):=by rw [hTi,Int.mul_assoc]
    have hw1:IntKind.i64.wrap (240*(Q:Int))=240*(Q:Int):=wrap_small (by omega) (by omega)
    have hw2:IntKind.i64.wrap (5*(T:Int))=5*(T:Int):=wrap_small (by omega) (by omega)
    have hw3:IntKind.i64.wrap (5*(T:Int)*(T:Int))=5*(T:Int)*(T:Int):=by rw [e5];exact wrap_small (by omega) (by omega)
    have HE5:=Lib.hid e5;clear e5 hTi hTT;go_wp2_with fail
    go_quiet (fail)
    go_wp2_with fail
    go_ret
    refine ⟨ret_bool ?_,_,rfl⟩;rw [E.out,Bool.eq_iff_iff];have h5:5*T*T=5*(T*T):=Nat.mul_assoc _ _ _;rw [h5];simp [HE5.out];omega
theorem Hs.lies {w:World} {r o:Nat} {F:Nat→Nat} (h:Hs w r F o):Lies w w.heap.size (some ⟨r,0,none⟩) (bins F):=by
 have hl:=h.lt;intro j u hu;refine ⟨_,rfl,hl,?_⟩;rw [add_lit0];have hj:=(List.getElem?_eq_some_iff.1 hu).1;refine cellL h.2 j u ?_;rw [List.getElem?_append_left hj];exact hu
def Hl (w:World) (r:Nat) (xs:List Int):Prop:=Hs w r (cnt xs) (cntO xs)
theorem Hl.lt {w:World} {r:Nat} {xs:List Int} (h:Hl w r xs):r<w.heap.size:=Hs.lt h
theorem Hl.keep {w w':World} {r:Nat} {xs:List Int} {B:Nat} (h:Hl w r xs) (hb:Below B w w') (hr:r<B):Hl w' r xs:=Hs.keep h hb hr
theorem Hl.off {w w':World} {r q:Nat} {xs:List Int} (h:Hl w r xs) (hb:w.grownBy w' (some q)) (hr:r≠q):Hl w' r xs:=Hs.off h hb hr
theorem Hs.ext {w:World} {r o:Nat} {F G:Nat→Nat} (h:Hs w r F o) (he:∀ j,j<240→F j=G j):Hs w r G o:=by
 have e1:tot F=tot G:=sumTo_ext 240 he;have e2:bins F=bins G:=bins_ext he;obtain ⟨a,b⟩:=h;rw [e1] at a b;rw [e2] at b;exact ⟨a,b⟩
def F2 (i b:Nat):Nat→Nat:=fun j=>i+if j<b then 1 else 0
def inB (x:Int):Bool:=decide (0≤x∧x<240)
def fl (xs:List Int):List Int:=xs.filter inB
end Go.Proofs.YthdengocipfgiaaGreat.W
