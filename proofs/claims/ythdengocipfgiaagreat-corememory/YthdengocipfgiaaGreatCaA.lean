import Derived.WalkKit
import Derived.WalkSpells
import Derived.RowKit3
import Derived.Lib.Hide
import Derived.Laws.CopyOwn
import Derived.Laws.AppendOwnNone
import Derived.Laws.Rows
import Derived.Deep.AppendLies
import Derived.Deep.Draws
import Derived.Deep.MidRow
import Derived.Deep.QuietTactic
import Derived.BigQuiet
import Derived.StillTailTactics
import Derived.Deep.LoopGhost
import Derived.Maps.Own
import Derived.Maps.OwnSet
import Derived.Maps.OwnOps
import Derived.Maps.RangeWalk
/- A part of what core's laws stand on. -/
set_option linter.unusedVariables false
set_option linter.unusedSimpArgs false
namespace Go.Proofs.YthdengocipfgiaaGreat.W
open Go.RowKit
theorem blk_add (a:Addr) (n:Nat):(a.add n).block=a.block:=by unfold Addr.add;split <;> rfl
theorem add_two (a:Addr) (i j:Nat):(a.add i).add j=a.add (i+j):=by
 unfold Addr.add
 by_cases hi:i=0 <;> by_cases hj:j=0 <;> simp [hi,hj,Nat.add_assoc]
theorem add_lit0 (g j:Nat):(⟨g,0,none⟩:Addr).add j=⟨g,j,none⟩:=by unfold Addr.add;split <;> simp_all
def Lies (w:World) (B:Nat) (A:Option Addr) (vs:List Value):Prop :=
 ∀ j u,vs[j]?=some u→∃ ad,A=some ad∧ad.block<B∧w.cell? (ad.add j)=some u
theorem Lies.keep {w w':World} {B:Nat} {A:Option Addr} {vs:List Value} (h:Lies w B A vs) (hk:∀ b,b<B→w'.heap[b]?=w.heap[b]?):Lies w' B A vs:=by
 intro j u hu;obtain ⟨ad,e,hb,hc⟩:=h j u hu;exact ⟨ad,e,hb,by rw [World.cell?_of_block (w:=w) (hk _ (by rw [blk_add];exact hb))];exact hc⟩
theorem Lies.below {w w':World} {B B':Nat} {A:Option Addr} {vs:List Value} (h:Lies w B A vs) (hb:Below B' w w') (hB:B≤B'):Lies w' B A vs :=
 h.keep fun b hlt=>hb.block b (by omega)
theorem Lies.more {w:World} {B B':Nat} {A:Option Addr} {vs:List Value} (h:Lies w B A vs) (hB:B≤B'):Lies w B' A vs:=by
 intro j u hu;obtain ⟨ad,e,hb,hc⟩:=h j u hu;exact ⟨ad,e,by omega,hc⟩
theorem Lies.nil (w:World) (B:Nat) (A:Option Addr):Lies w B A []:=by intro j u hu;simp at hu
theorem Lies.drop {w:World} {B:Nat} {A:Option Addr} {vs:List Value} (h:Lies w B A vs) (k:Nat) (A':Option Addr) (hA:k<vs.length→A'=A.map (·.add k)):Lies w B A' (vs.drop k):=by
 intro j u hu;rw [List.getElem?_drop] at hu;have hk:k<vs.length:=by have:=(List.getElem?_eq_some_iff.1 hu).1;omega
 obtain ⟨ad,e,hb,hc⟩:=h _ u hu;subst e;exact ⟨ad.add k,by rw [hA hk];rfl,by rw [blk_add];exact hb,by rw [add_two];exact hc⟩
theorem Lies.take {w:World} {B:Nat} {A:Option Addr} {vs:List Value} (h:Lies w B A vs) (k:Nat):Lies w B A (vs.take k):=by
 intro j u hu;rw [List.getElem?_take] at hu
 split at hu
 ·exact h j u hu
 ·cases hu
theorem Lies.at_ {w:World} {B:Nat} {A:Option Addr} {vs:List Value} (h:Lies w B A vs) {k:Nat} (hk:k<vs.length):∃ ad,A=some ad∧ad.block<B∧w.cell? (ad.add k)=some vs[k] :=
 h k _ (List.getElem?_eq_getElem hk)
theorem Lies.some_ {w:World} {B:Nat} {A:Option Addr} {vs:List Value} (h:Lies w B A vs) (hk:0<vs.length):∃ ad,A=some ad∧ad.block<B∧∀ j u,vs[j]?=some u→w.cell? (ad.add j)=some u:=by
 obtain ⟨ad,e,hb,_⟩:=h.at_ hk;refine ⟨ad,e,hb,fun j u hu=>?_⟩;obtain ⟨ad',e',_,hc⟩:=h j u hu;rw [e] at e';injection e' with e';subst e';exact hc
theorem lies_own {w:World} {base:Nat} {e:TypeId} {g n cap:Nat} {vs:List Value} (h:w.ownsRow base e 1 (.slice (some ⟨g,0,none⟩) n cap) n vs):Lies w w.heap.size (some ⟨g,0,none⟩) vs:=by
 intro j u hu;refine ⟨_,rfl,?_,h.cells (g:=g) rfl j u hu⟩;have hn:0<n:=by have:=(List.getElem?_eq_some_iff.1 hu).1;have:=h.1;omega
 obtain ⟨g',cap',hv,_,hlt⟩:=h.form hn;injection hv with hv;injection hv with hv;injection hv with hv;subst hv;exact hlt
theorem cell_lt {w:World} {a:Addr} {v:Value} (h:w.cell? a=some v):a.block<w.heap.size:=by
 rcases Nat.lt_or_ge a.block w.heap.size with k | k
 ·exact k
 ·rw [show w.cell? a=none by simp [World.cell?,Array.getElem?_eq_none k]] at h;cases h
theorem wf_i64 (n:Int) (h:(Lit.int .i64 n).wf=true):-9223372036854775808≤n∧n≤9223372036854775807:=by
 simp [Lit.wf,IntKind.min,IntKind.max,IntKind.signed,IntKind.bits] at h;omega
theorem grown_mono {a b c:World} {row:Option Nat} (h:a.grownBy b none) (k:b.grownBy c row):a.grownBy c row :=
 ⟨k.os.trans h.os,k.tape.trans h.tape,k.output.trans h.output,Nat.le_trans h.size k.size,fun i hi hr=>(k.block i (by have:=h.size;omega) hr).trans (h.block i hi (by simp))⟩
theorem below_grown {a b:World} (h:Below a.heap.size a b) (row:Option Nat):a.grownBy b row:=⟨h.os,h.tape,h.output,h.size,fun i hi _=>h.block i hi⟩
theorem grown_below {a b:World} (h:a.grownBy b none):Below a.heap.size a b:=⟨h.os,h.tape,h.output,h.size,fun i hi=>h.block i hi (by simp)⟩
theorem grown_trans {a b c:World} {row:Option Nat} (h:a.grownBy b row) (k:b.grownBy c row):a.grownBy c row :=
 ⟨k.os.trans h.os,k.tape.trans h.tape,k.output.trans h.output,Nat.le_trans h.size k.size,fun i hi hr=>(k.block i (by have:=h.size;omega) hr).trans (h.block i hi hr)⟩
theorem below_drewN {B:Nat} {a w:World} (h:Below B a w) (n:Nat):Below B a (w.drewN n):=⟨h.os,h.tape,h.output,h.size,h.block⟩
theorem own_below {w w':World} {base B:Nat} {e:TypeId} {size:Nat} {v:Value} {n:Nat} {xs:List Value} (h:w.ownsRow base e size v n xs) (hb:Below B w w') (hB:w.heap.size≤B):w'.ownsRow base e size v n xs:=by
 obtain ⟨h1,h2⟩:=h;refine ⟨h1,?_⟩
 rcases h2 with h2 | ⟨g,cap,cur,hv,hg,hh,r⟩
 ·exact Or.inl h2
 ·refine Or.inr ⟨g,cap,cur,hv,hg,?_,r⟩
  have:g<w.heap.size:=by
   rcases Nat.lt_or_ge g w.heap.size with k | k
   ·exact k
   ·rw [Array.getElem?_eq_none k] at hh;cases hh
  rw [hb.block g (by omega)];exact hh
theorem wpList_make_row {P:Program} {w:World} {ops:Array Oper} {rest:List Oper} {o:Oper} {a:Act} {Q:Exit→Act→World→Prop}
  (hg:o.guard=none) (l c:Operand) (t:TypeId) (hop:o.op=Op.makeSlice t l c)
  (e:TypeId) (i:TypeInfo) (z:Value) (h1:P.underlying t=some (.slice e)) (h2:P.info? e=some i) (h3:i.zero=some z) (h4:i.size=1) (h5:z.cells=#[z])
  (kl kc:IntKind) (L C:Int) (n m:Nat) (hl:a.eval l=.int kl L) (hc:a.eval c=.int kc C) (hL:L=(n:Int)) (hC:C=(m:Int)) (hnm:n≤m) (b2:i.bytes*m≤281474976710656) (b3:m≤140737488355328)
  (hK:∀ w',Hid (w'.heap[w.heap.size]?=some (.cells (List.replicate m z).toArray e (0,0)))→w.grownBy w' none→w'.heap.size=w.heap.size+1→wpList P ops Q rest (a.put o.dst (.slice (some ⟨w.heap.size,0,none⟩) n m)) w') :
  wpList P ops Q (o :: rest) a w:=by
 refine wpList_plain hg fun K hK'=>?_;subst hL;subst hC
 have hb':(i.bytes:Int)*(m:Int)≤281474976710656:=by
  have h:((i.bytes*m:Nat):Int)≤281474976710656:=by omega
  rwa [Int.natCast_mul] at h
 have hr:=run_make (P:=P) w t e i z h1 h2 h3 kl kc n m (by omega) (by omega) hb' (by omega)
 simp only [Int.toNat_natCast] at hr;unfold Oper.wp;simp [execOp,hop,hl,hc,hr,Result.andThen];refine hK' _ _ (hK _ ?_ (World.grownBy_alloc w _ none) (by simp))
 show (w.alloc _).heap[w.heap.size]?=_;rw [heap_alloc_new,h4,h5,Nat.mul_one];congr 2;rw [←toList_madeCells_one]
theorem own_made {w2:World} {B g k c:Nat} {cs:List Value} {z:Value} {e:TypeId} (hk:cs.length=k) (hc:k≤c) (hm:c≤140737488355328)
  (HG:Hid (w2.heap[g]?=some (.cells (splice (List.replicate c z) 0 cs).toArray e (0,0)))) (hB:B≤g) :
  w2.ownsRow B e 1 (.slice (some ⟨g,0,none⟩) k c) k cs:=by
 refine ⟨by omega,Or.inr ⟨_,c,_,rfl,hB,HG.out,hc,by simp only [maxLen];omega,?_,?_⟩⟩
 ·simp [splice];omega
 ·simp [splice,hk]
theorem wpList_copy_new {P:Program} {w:World} {ops:Array Oper} {rest:List Oper} {o:Oper} {a:Act} {Q:Exit→Act→World→Prop} (hgd:o.guard=none) (d s:Operand) (dT sT:TypeId)
  (ho:o.op=.call { callee:=.builtin .copy,args:=#[d,s],argTypes:=#[dT,sT] }) (elem:TypeId) (hu:P.underlying dT=some (.slice elem)) (i:TypeInfo) (hi:P.info? elem=some i) (hz1:i.size=1)
  (g k c:Nat) (A:Option Addr) (sCap:Nat) (cs:List Value) (z:Value) (B B0:Nat) (w0:World) (hd:a.eval d=.slice (some ⟨g,0,none⟩) k c) (hs:a.eval s=.slice A k sCap)
  (HG:Hid (w.heap[g]?=some (.cells (List.replicate c z).toArray elem (0,0)))) (hk:cs.length=k) (hkc:k≤c) (hc:c≤140737488355328) (hsrc:Lies w B A cs) (h1:∀ v ∈ cs,v.oneCell'=true)
  (hb:Below B0 w0 w) (hBg:B0≤g)
  (h:∀ w',w'.ownsRow B0 elem 1 (.slice (some ⟨g,0,none⟩) k c) k cs→Below B0 w0 w'→g<w'.heap.size→wpList P ops Q rest (a.put o.dst (.int .i64 k)) w'):wpList P ops Q (o :: rest) a w:=by
 refine wpList_copy_splice hgd d s dT sT ho elem hu (by rw [hi];simp [hz1]) _ _ _ _ _ _ hd hs g 0 (List.replicate c z) elem HG.out cs (by rw [hk];simp) ?_ (by simp;omega) h1 B0 w0 hb hBg ?_
 ·intro hpos
  obtain ⟨ad,e,_,hc⟩:=hsrc.some_ hpos;exact ⟨rfl,ad,e,hc⟩
 ·intro w' HG' hb'
  have own:=own_made hk hkc hc HG' hBg;have hlt:=(own.lt g rfl).2;rw [hk];exact h w' own hb' hlt
theorem wpList_app1 {P:Program} {w:World} {ops:Array Oper} {rest:List Oper} {o:Oper} {a:Act} {Q:Exit→Act→World→Prop} (hgd:o.guard=none) (s x:Operand) (t:TypeId)
  (ho:o.op=.call { callee:=.builtin .append,args:=#[s,x],argTypes:=#[t,t] })
  (base:Nat) (e:TypeId) (i:TypeInfo) (z:Value) (bytes:Nat) (ht:P.underlying t=some (.slice e)) (hi:P.info? e=some i) (hz:i.zero=some z)
  (hsize:i.size=1) (hby:i.bytes=bytes) (hzs:z.cells.size=1)
  (v:Value) (n:Nat) (xs:List Value) (hs:a.eval s=v) (hown:w.ownsRow base e 1 v n xs) (u:Value) (e':TypeId) (h1:u.oneCell'=true)
  (H:Nat) (hx:a.eval x=.slice (some ⟨H,0,none⟩) 1 1) (hH:H=w.heap.size) (h63:n+1≤140737488355328) (hbytes:(n+1)*bytes≤140737488355328) (hbase:base≤w.heap.size)
  (h:∀ g cap w',w'.ownsRow base e 1 (.slice (some ⟨g,0,none⟩) (n+1) cap) (n+1) (xs ++ [u])→w.grownBy w' v.ownBlock→(v.ownBlock=some g∨w.heap.size≤g)→g<w'.heap.size →
   wpList P ops Q rest (a.put o.dst (.slice (some ⟨g,0,none⟩) (n+1) cap)) w'):wpList P ops Q (o :: rest) a (w.alloc (.cells #[u] e')):=by
 subst hH;refine wpList_append_lies (w.alloc (.cells #[u] e')) hgd s x t ho base e i z 1 bytes ht hi hz hsize hby hzs (by omega) v n xs hs (hown.alloc _) ⟨w.heap.size,0,none⟩ 1 1 [u] hx rfl ?_ (by simpa using h1) (by omega) (by simp only [maxLen];omega) hbytes (by simp;omega) _ rfl ?_
 ·intro j u' hu
  rw [add_lit0,cell_of_row _ _ _ _ _ _ (heap_alloc_new w _)]
  simpa using hu
 ·intro g cap w' h2 h3 h4 h5
  refine h g cap w' h2 (grown_mono (World.grownBy_alloc w _ none) h3) ?_ h5
  rcases h4 with h4 | h4
  ·exact Or.inl h4
  ·refine Or.inr ?_
   simp at h4;omega
theorem wpList_from {P:Program} {w:World} {ops:Array Oper} {rest:List Oper} {o:Oper} {act:Act} {Q:Exit→Act→World→Prop} (hg:o.guard=none) (x l:Operand) (t:TypeId) (hop:o.op=Op.slice t x (some l) none none)
  (e:TypeId) (i:TypeInfo) (ht:P.underlying t=some (.slice e)) (hi:P.info? e=some i) (hs:i.size=1) (A:Option Addr) (k c a:Nat) (kl:IntKind) (hx:act.eval x=.slice A k c) (hl:act.eval l=.int kl (a:Int)) (ha:a≤k) (hc:k≤c)
  (hK:∀ A',Hid (A'=A.map (·.add a)∨k≤a)→wpList P ops Q rest (act.put o.dst (.slice A' (k-a) (c-a))) w):wpList P ops Q (o :: rest) act w:=by
 have he:P.elem t=e:=by simp [Program.elem,ht]
 have ht':P.underlying t=some (.slice (P.elem t)):=by rw [he];exact ht
 have hr:(Instr.slice t (.slice A k c) (some (.int kl (a:Int))) none none).run P w=.ok (.slice (if c=a then A else A.map (·.add a)) (k-a) (c-a)) w:=by
  rw [run_slice_l (P:=P) w t A k c ht' kl (a:Int) (by omega) (by omega),he]
  simp [sizeOf,typeInfo,hi,hs,sliced,Result.andThen]
 refine wpList_plain hg fun K hK'=>?_;unfold Oper.wp;simp only [execOp,hop,Option.map_some,Option.map_none,hx,hl,run_sliceAt_slice (P:=P) w t _ _ _ _ ht',hr,Sem.run_bind,Result.andThen,Sem.run_pure];refine hK' _ _ (hK _ ?_);show _∨_
 by_cases q:c=a
 ·exact Or.inr (by omega)
 ·rw [if_neg q];exact Or.inl rfl
theorem frozen_of_row (w:World) (g j:Nat) (cs:Array Value) (t:TypeId) (hg:w.heap[g]?=some (.cells cs t (0,0))):w.frozen? ⟨g,j,none⟩=false:=by
 simp [World.frozen?,hg]
theorem set_row {w:World} {g:Nat} {cs:Array Value} {t:TypeId} (hg:w.heap[g]?=some (.cells cs t (0,0))) (i:Nat) (u:Value) :
  (w.setCell ⟨g,i,none⟩ u).heap[g]?=some (.cells (cs.setIfInBounds i u) t (0,0)):=by
 simp [World.setCell,Array.getElem?_modify,hg]
theorem set_rowL {w:World} {g:Nat} {cs:List Value} {t:TypeId} (hg:w.heap[g]?=some (.cells cs.toArray t (0,0))) (i:Nat) (u:Value) :
  (w.setCell ⟨g,i,none⟩ u).heap[g]?=some (.cells (cs.set i u).toArray t (0,0)):=by
 rw [set_row hg];simp
theorem lt_of_row {w:World} {g:Nat} {o:Obj} (hg:w.heap[g]?=some o):g<w.heap.size:=by
 rcases Nat.lt_or_ge g w.heap.size with hl | hl
 ·exact hl
 ·rw [Array.getElem?_eq_none hl] at hg;cases hg
theorem grown_set (w:World) (n r j:Nat) (v:Value):w.grownBy ((w.drewN n).setCell ⟨r,j,none⟩ v) (some r) :=
 ⟨rfl,rfl,rfl,by simp [World.setCell],fun k _ hr=>Below.heap_setCell (w.drewN n) _ _ _ (by simpa using hr)⟩
theorem grown_put {w w':World} {r:Nat} (h:w.grownBy w' (some r)) (j:Nat) (v:Value):w.grownBy (w'.setCell ⟨r,j,none⟩ v) (some r) :=
 grown_trans h (grown_set w' 0 r j v)
theorem grown_drewN (w:World) (n:Nat) (row:Option Nat):w.grownBy (w.drewN n) row:=⟨rfl,rfl,rfl,Nat.le_refl _,fun _ _ _=>rfl⟩
theorem drewN_two (w:World) (a b:Nat):(w.drewN a).drewN b=w.drewN (a+b):=by simp [World.drewN,Nat.add_assoc]
theorem grown_drew {w w':World} {row:Option Nat} (h:w.grownBy w' row):w.grownBy w'.drew row:=grown_trans h (grown_drewN w' 1 row)
theorem cellL {w:World} {g:Nat} {cs:List Value} {t:TypeId} {fr:Nat×Nat} (hg:w.heap[g]?=some (.cells cs.toArray t fr)) (j:Nat) (v:Value) (hv:cs[j]?=some v):w.cell? ⟨g,j,none⟩=some v:=by
 rw [cell_of_row w g j _ _ _ hg];simpa using hv
theorem quiet_eq {P:Program} {f:FuncId} {args:Array Value} {w:World} {v:Value} (h:Calls P f args w fun e w'=>e=.returned v∧w=w') :
  Calls P f args w fun e w'=>e=.returned v∧w'=w:=h.mono fun _ _ ⟨he,hw⟩=>⟨he,hw.symm⟩
theorem ret_bool {a b:Bool} (h:a=b):Ending.returned (.bool a)=.returned (.bool b):=by rw [h]
theorem own_cap {w:World} {base:Nat} {e:TypeId} {g n cap:Nat} {vs:List Value} (h:w.ownsRow base e 1 (.slice (some ⟨g,0,none⟩) n cap) n vs):n≤cap∧g<w.heap.size∧base≤g:=by
 have hl:=h.lt g rfl
 rcases h.2 with ⟨hv,_⟩ | ⟨g',cap',cur,hv,_,_,hnc,_⟩
 ·cases hv
 ·injection hv with _ _ hv;subst hv;exact ⟨hnc,hl.2,hl.1⟩
theorem below_row {B r:Nat} {w0 w w':World} (hb:Below B w0 w) (hr:B≤r) (hg:w.grownBy w' (some r)) (hB:B≤w.heap.size):Below B w0 w' :=
 hb.grown hg hB (fun j hj=>by injection hj with hj;omega)
abbrev ints (l:List Int):List Value:=l.map (Value.int .i64)
theorem ones_i64 (l:List Int):∀ u ∈ ints l,u.oneCell'=true:=by
 intro u hu;obtain ⟨_,_,rfl⟩:=List.mem_map.1 hu;rfl
theorem wpList_load_head {P:Program} {ops:Array Oper} {rest:List Oper} {o:Oper} {a:Act} {w:World} {Q:Exit→Act→World→Prop} (hgd:o.guard=none) (ty:TypeId) (x:Operand) (ho:o.op=.load ty x)
  (b:Nat) (hx:a.eval x=.pointer (some ⟨b,0,none⟩)) (cs cs':List Value) (t:TypeId) (fr:Nat×Nat) (n:Nat) (e:TypeId) (hb:w.heap[b]?=some (.cells (cs ++ cs').toArray t fr))
  (hu:P.underlying ty=some (.array n e)) (hi:(P.info? ty).map (·.size)=some cs.length)
  (h:wpList P ops Q rest (a.put o.dst (.agg cs.toArray)) w):wpList P ops Q (o :: rest) a w:=by
 refine wpList_load_mid hgd ty x ho b 0 hx cs _ ?_ hu rfl hi h;intro j v hv;rw [Nat.zero_add];refine cellL hb j v ?_;rw [List.getElem?_append_left (List.getElem?_eq_some_iff.1 hv).1];exact hv
theorem wpList_index_cell {P:Program} {ops:Array Oper} {rest:List Oper} {o:Oper} {a:Act} {w:World} {Q:Exit→Act→World→Prop} (hgd:o.guard=none) (ty:TypeId) (x ix:Operand) (ho:o.op=.index ty x ix)
  (n:Nat) (e:TypeId) (hu:P.underlying ty=some (.array n e)) (d:TypeDesc) (hue:P.underlying e=some d) (hd:d.isRow=false) (hsz:(P.info? e).map (·.size)=some 1)
  (cs:List Value) (hx:a.eval x=.agg cs.toArray) (k:IntKind) (i:Nat) (hi:a.eval ix=.int k (i:Int)) (hin:i<n) (v:Value) (hv:cs[i]?=some v)
  (h:wpList P ops Q rest (a.put o.dst v) w):wpList P ops Q (o :: rest) a w:=by
 refine wpList_plain hgd fun K hK=>?_
 cases hq:P.info? e with
 | none=>simp [hq] at hsz
 | some ie =>
  have hs:ie.size=1:=by simpa [hq] using hsz
  have hagg:(isAgg e).run P w=.ok false w:=by
   unfold isAgg;rw [Sem.run_bind,run_underlying hue w]
   cases d <;> simp_all
  have hrun:(Instr.index ty (.agg cs.toArray) (.int k (i:Int))).run P w=.ok v w:=by
   simp [Instr.index,asIntOf,run_underlying hu,sizeOf,typeInfo,hq,hs,part,hagg,hv];omega
  unfold Oper.wp execOp;simp only [ho,hx,hi,hrun,Sem.run_bind,Sem.run_pure,Result.andThen];exact hK _ _ h
theorem wpList_copy_in {P:Program} {w:World} {ops:Array Oper} {rest:List Oper} {o:Oper} {a:Act} {Q:Exit→Act→World→Prop} (hgd:o.guard=none) (d s:Operand) (dT sT:TypeId)
  (ho:o.op=.call { callee:=.builtin .copy,args:=#[d,s],argTypes:=#[dT,sT] }) (elem:TypeId) (hu:P.underlying dT=some (.slice elem)) (hsz:(P.info? elem).map (·.size)=some 1)
  (g off dLen dCap:Nat) (ad:Addr) (sLen sCap:Nat) (hd:a.eval d=.slice (some ⟨g,off,none⟩) dLen dCap) (hs:a.eval s=.slice (some ad) sLen sCap)
  (cur:List Value) (t:TypeId) (hg:w.heap[g]?=some (.cells cur.toArray t (0,0))) (cs:List Value) (hn:cs.length=Nat.min sLen dLen)
  (hsrc:∀ j v,cs[j]?=some v→w.cell? (ad.add j)=some v) (hfit:off+cs.length≤cur.length) (h1:∀ v ∈ cs,v.oneCell'=true)
  (h:∀ w',Hid (w'.heap[g]?=some (.cells (splice cur off cs).toArray t (0,0)))→w.grownBy w' (some g)→wpList P ops Q rest (a.put o.dst (goInt cs.length)) w'):wpList P ops Q (o :: rest) a w:=by
 refine wpList_copy_own hgd d s dT sT ho elem hu hsz g off dLen dCap ad sLen sCap hd hs cur.toArray t hg cs hn hsrc (by simpa using hfit) h1 ?_
 exact h _ (show _=_ by simpa [splice] using setRow_heap w g _ _ t _ hg) ⟨rfl,rfl,rfl,by simp [World.setRow],fun k _ hk=>setRow_other w g k _ (by intro e;exact hk (by rw [e]))⟩
theorem wpList_store_in {P:Program} {w:World} {ops:Array Oper} {rest:List Oper} {o:Oper} {a:Act} {Q:Exit→Act→World→Prop} (hgd:o.guard=none) (ty:TypeId) (p y:Operand) (ho:o.op=.store ty p y) (hsz:(P.info? ty).map (·.size)=some 1)
  (b j:Nat) (hp:a.eval p=.pointer (some ⟨b,j,none⟩)) (k:IntKind) (x:Int) (hy:a.eval y=.int k x) (cur:List Value) (t:TypeId) (hg:w.heap[b]?=some (.cells cur.toArray t (0,0))) (hj:j<cur.length)
  (h:∀ w',Hid (w'.heap[b]?=some (.cells (cur.set j (.int k x)).toArray t (0,0)))→w.grownBy w' (some b)→wpList P ops Q rest (a.put o.dst undef) w'):wpList P ops Q (o :: rest) a w:=by
 refine wpList_plain hgd fun K hK=>?_
 cases hq:P.info? ty with
 | none=>simp [hq] at hsz
 | some i =>
  have hs:i.size=1:=by simpa [hq] using hsz
  have h1:=run_storeCells_cells (P:=P) b j [.int k x] 0 w (fun i hi=>by
   obtain rfl:i=0:=by simp at hi;omega
   rw [show j+0+0=j from rfl,cellL hg j _ (List.getElem?_eq_getElem hj)];rfl) (fun i hi=>by
   obtain rfl:i=0:=by simp at hi;omega
   exact frozen_of_row w b _ _ _ hg) (by simp [Value.oneCell'])
  simp only [World.setCells,Nat.add_zero] at h1
  have hrun:(Instr.storeAt ty (.pointer (some ⟨b,j,none⟩)) (.int k x)).run P w=.ok () (w.setCell ⟨b,j,none⟩ (.int k x)):=by
   simp [Instr.storeAt,Instr.sureAddr,storeVar,sizeOf,typeInfo,hq,hs,Value.cells,h1]
  unfold Oper.wp execOp;simp only [ho,hp,hy,hrun,Sem.run_bind,Sem.run_pure,Result.andThen];refine hK _ _ (h _ (show _=_ from set_rowL hg j _) (grown_set w 0 b j _))
theorem Lies.int {w:World} {B:Nat} {A:Option Addr} {xs:List Int} (h:Lies w B A (ints xs)) {i:Nat} (hi:i<xs.length):∃ ad x,A=some ad∧ad.block<B∧xs[i]?=some x∧w.cell? (ad.add i)=some (.int .i64 x):=by
 obtain ⟨ad,e,hb,hc⟩:=h.at_ (k:=i) (by simpa using hi)
 exact ⟨ad,xs[i],e,hb,List.getElem?_eq_getElem hi,by simpa using hc⟩
theorem take_snoc {xs:List Int} {i:Nat} {x:Int} (h:xs[i]?=some x):xs.take (i+1)=xs.take i ++ [x]:=by
 rw [List.take_add_one,h];rfl
theorem wpList_max_to {P:Program} {w:World} {ops:Array Oper} {rest:List Oper} {o:Oper} {a:Act} {Q:Exit→Act→World→Prop} (hgd:o.guard=none) (x y:Operand) (t u:TypeId)
  (ho:o.op=.call { callee:=.builtin .max,args:=#[x,y],argTypes:=#[t,u] }) (k k':IntKind) (p q m:Int) (hx:a.eval x=.int k p) (hy:a.eval y=.int k' q) (hm:m=max p q)
  (h:wpList P ops Q rest (a.put o.dst (.int k m)) w):wpList P ops Q (o :: rest) a w:=by
 refine wpList_plain hgd fun K hK=>?_;have e:m=if q > p then q else p:=by subst hm;split <;> omega
 have hrun:=run_max_int2 (P:=P) (w:=w) #[t,u] o.type k k' p q;rw [←e] at hrun;unfold Oper.wp;simp [execOp,ho,resolve,invoke,builtin,hx,hy,hrun,Result.andThen];exact hK _ _ h
theorem wpList_min_to {P:Program} {w:World} {ops:Array Oper} {rest:List Oper} {o:Oper} {a:Act} {Q:Exit→Act→World→Prop} (hgd:o.guard=none) (x y:Operand) (t u:TypeId)
  (ho:o.op=.call { callee:=.builtin .min,args:=#[x,y],argTypes:=#[t,u] }) (k k':IntKind) (p q m:Int) (hx:a.eval x=.int k p) (hy:a.eval y=.int k' q) (hm:m=min p q)
  (h:wpList P ops Q rest (a.put o.dst (.int k m)) w):wpList P ops Q (o :: rest) a w:=by
 refine wpList_plain hgd fun K hK=>?_;have e:m=if q<p then q else p:=by subst hm;split <;> omega
 have hrun:=run_min_int2 (P:=P) (w:=w) #[t,u] o.type k k' p q;rw [←e] at hrun;unfold Oper.wp;simp [execOp,ho,resolve,invoke,builtin,hx,hy,hrun,Result.andThen];exact hK _ _ h
theorem own_max {w:World} {base:Nat} {e:TypeId} {g n cap:Nat} {vs:List Value} (h:w.ownsRow base e 1 (.slice (some ⟨g,0,none⟩) n cap) n vs):cap≤9223372036854775807:=by
 rcases h.2 with ⟨hv,_⟩ | ⟨g',cap',cur,hv,_,_,_,hm,_⟩
 ·cases hv
 ·injection hv with _ _ hv;subst hv;simpa [maxLen] using hm
theorem own_off {w w':World} {base:Nat} {e:TypeId} {g n cap g':Nat} {vs:List Value} (h:w.ownsRow base e 1 (.slice (some ⟨g,0,none⟩) n cap) n vs) (hg:w.grownBy w' (some g')) (hne:g≠g'):w'.ownsRow base e 1 (.slice (some ⟨g,0,none⟩) n cap) n vs:=by
 have hl:=(own_cap h).2.1;obtain ⟨h1,h2⟩:=h;refine ⟨h1,?_⟩
 rcases h2 with h2 | ⟨g1,cap1,cur,hv,hb,hh,r⟩
 ·exact Or.inl h2
 ·have hv':=hv
  injection hv' with hv' _ _
  injection hv' with hv'
  injection hv' with hv'
  subst hv';exact Or.inr ⟨g,cap1,cur,hv,hb,by rw [hg.block g hl (by simpa using hne)];exact hh,r⟩
end Go.Proofs.YthdengocipfgiaaGreat.W
namespace Go.Proofs.YthdengocipfgiaaGreat.W
structure Odr {V:Type} (lt:V→V→Bool) (ok:V→Prop):Prop where
 asym:∀ a b,ok a→ok b→lt a b=true→lt b a=false
 ntr:∀ a b c,ok a→ok b→ok c→lt a b=false→lt b c=false→lt a c=false
theorem Odr.irr {V:Type} {lt:V→V→Bool} {ok:V→Prop} (O:Odr lt ok) (a:V) (h:ok a):lt a a=false:=by
 by_cases e:lt a a=true
 ·exact O.asym a a h h e
 ·simpa using e
def par (i:Nat):Nat:=(i-1) / 2
theorem par_lt {i:Nat} (h:0<i):par i<i:=by unfold par;omega
def upd {α:Type} (f:Nat→α) (i:Nat) (a:α):Nat→α:=fun j=>if j=i then a else f j
theorem upd_same {α:Type} (f:Nat→α) (i:Nat) (a:α):upd f i a i=a:=by simp [upd]
theorem upd_ne {α:Type} (f:Nat→α) {i j:Nat} (a:α) (h:j≠i):upd f i a j=f j:=by simp [upd,h]
def updZ {α:Type} (f:Int→Option α) (i:Int) (a:Option α):Int→Option α:=fun j=>if j=i then a else f j
theorem updZ_same {α:Type} (f:Int→Option α) (i:Int) (a:Option α):updZ f i a i=a:=by simp [updZ]
theorem updZ_ne {α:Type} (f:Int→Option α) {i j:Int} (a:Option α) (h:j≠i):updZ f i a j=f j:=by simp [updZ,h]
theorem updZ_twice {α:Type} (f:Int→Option α) (i:Int) (a b:Option α):updZ (updZ f i a) i b=updZ f i b:=by
 funext j;unfold updZ;split <;> rfl
variable {V:Type} {lt:V→V→Bool} {ok:V→Prop}
structure Hole (lt:V→V→Bool) (ok:V→Prop) (n:Nat) (T:Nat→Int×V) (i:Nat):Prop where
 lt_n:i<n
 okV:∀ j,j<n→j≠i→ok (T j).2
 ord:∀ j,0<j→j<n→j≠i→par j≠i→lt (T j).2 (T (par j)).2=false
 skip:∀ j,0<j→j<n→par j=i→0<i→lt (T j).2 (T (par i)).2=false
structure Pl (n:Nat) (T:Nat→Int×V) (i:Nat) (k0:Int) (M:Int→Option Nat) (A:Int→Option V):Prop where
 nk:∀ j,j<n→j≠i→(T j).1≠k0
 inj:∀ j k,j<n→k<n→j≠i→k≠i→(T j).1=(T k).1→j=k
 at_:∀ k,k≠k0→∀ j,M k=some j↔(j<n∧j≠i∧(T j).1=k)
 con:∀ k v,A k=some v↔∃ j,j<n∧j≠i∧T j=(k,v)
structure Full (lt:V→V→Bool) (ok:V→Prop) (n:Nat) (T:Nat→Int×V) (M:Int→Option Nat) (A:Int→Option V):Prop where
 okV:∀ j,j<n→ok (T j).2
 ord:∀ j,0<j→j<n→lt (T j).2 (T (par j)).2=false
 inj:∀ j k,j<n→k<n→(T j).1=(T k).1→j=k
 at_:∀ k j,M k=some j↔(j<n∧(T j).1=k)
 con:∀ k v,A k=some v↔∃ j,j<n∧T j=(k,v)
theorem Full.empty (T:Nat→Int×V):Full lt ok 0 T (fun _=>none) (fun _=>none) :=
 ⟨fun j h=>absurd h (by omega),fun j _ h=>absurd h (by omega),fun j k h=>absurd h (by omega),fun k j=>by simp,fun k v=>by simp⟩
theorem Full.get {n:Nat} {T:Nat→Int×V} {M:Int→Option Nat} {A:Int→Option V} (h:Full lt ok n T M A) {k:Int} {j:Nat} (hj:M k=some j):j<n∧A k=some (T j).2∧(T j).1=k:=by
 obtain ⟨h1,h2⟩:=(h.at_ k j).1 hj;exact ⟨h1,(h.con _ _).2 ⟨j,h1,by rw [←h2]⟩,h2⟩
theorem Full.isnone {n:Nat} {T:Nat→Int×V} {M:Int→Option Nat} {A:Int→Option V} (h:Full lt ok n T M A) {k:Int} (hj:M k=none):A k=none:=by
 cases e:A k with
 | none=>rfl
 | some v =>
  obtain ⟨j,h1,h2⟩:=(h.con _ _).1 e;have:=(h.at_ k j).2 ⟨h1,by rw [h2]⟩
  rw [hj] at this;cases this
theorem Pl.move {n:Nat} {T:Nat→Int×V} {i p:Nat} {k0:Int} {M:Int→Option Nat} {A:Int→Option V} (h:Pl n T i k0 M A) (hi:i<n) (hp:p<n) (hpi:p≠i) :
  Pl n (upd T i (T p)) p k0 (updZ M (T p).1 (some i)) A where
 nk:=by
  intro j hj hjp
  by_cases e:j=i
  ·subst e;rw [upd_same];exact h.nk p hp hpi
  ·rw [upd_ne _ _ e];exact h.nk j hj e
 inj:=by
  intro j k hj hk hjp hkp hjk
  by_cases e:j=i <;> by_cases e':k=i
  ·omega
  ·subst e;rw [upd_same,upd_ne _ _ e'] at hjk
   exact absurd (h.inj p k hp hk hpi e' hjk).symm hkp
  ·subst e';rw [upd_same,upd_ne _ _ e] at hjk
   exact absurd (h.inj j p hj hp e hpi hjk) hjp
  ·rw [upd_ne _ _ e,upd_ne _ _ e'] at hjk;exact h.inj j k hj hk e e' hjk
 at_:=by
  intro k hk j
  by_cases e:k=(T p).1
  ·subst e
   rw [updZ_same]
   constructor
   ·intro q;cases q;exact ⟨hi,fun q=>hpi q.symm,by rw [upd_same]⟩
   ·rintro ⟨h1,h2,h3⟩
    by_cases e':j=i
    ·rw [e']
    ·rw [upd_ne _ _ e'] at h3;exact absurd (h.inj j p h1 hp e' hpi h3) h2
  ·rw [updZ_ne _ _ e,h.at_ k hk j]
   constructor
   ·rintro ⟨h1,h2,h3⟩
    refine ⟨h1,fun q=>?_,by rw [upd_ne _ _ h2];exact h3⟩
    subst q;exact e h3.symm
   ·rintro ⟨h1,h2,h3⟩
    by_cases e':j=i
    ·subst e';rw [upd_same] at h3;exact absurd h3.symm e
    ·rw [upd_ne _ _ e'] at h3;exact ⟨h1,e',h3⟩
 con:=by
  intro k v;rw [h.con]
  constructor
  ·rintro ⟨j,h1,h2,h3⟩
   by_cases e:j=p
   ·subst e;exact ⟨i,hi,fun q=>hpi q.symm,by rw [upd_same];exact h3⟩
   ·exact ⟨j,h1,e,by rw [upd_ne _ _ h2];exact h3⟩
  ·rintro ⟨j,h1,h2,h3⟩
   by_cases e:j=i
   ·subst e;rw [upd_same] at h3;exact ⟨p,hp,hpi,h3⟩
   ·rw [upd_ne _ _ e] at h3;exact ⟨j,h1,e,h3⟩
theorem Hole.up {n:Nat} {T:Nat→Int×V} {i:Nat} (O:Odr lt ok) (h:Hole lt ok n T i) (hi:0<i):Hole lt ok n (upd T i (T (par i))) (par i):=by
 have hp:=par_lt hi;have hpn:par i<n:=Nat.lt_trans hp h.lt_n;have hpi:par i≠i:=Nat.ne_of_lt hp;have okp:=h.okV (par i) hpn hpi;refine ⟨hpn,?_,?_,?_⟩
 ·intro j hj hjp
  by_cases e:j=i
  ·subst e;rw [upd_same];exact okp
  ·rw [upd_ne _ _ e];exact h.okV j hj e
 ·intro j h0 hj hjp hpj
  have e:j≠i:=fun e=>hpj (by rw [e])
  rw [upd_ne _ _ e]
  by_cases e':par j=i
  ·rw [e',upd_same];exact h.skip j h0 hj e' hi
  ·rw [upd_ne _ _ e'];exact h.ord j h0 hj e e'
 ·intro j h0 hj hpj hp0
  have hpp:par (par i)≠i:=fun q=>by have:=par_lt hp0;omega
  rw [upd_ne _ _ hpp];have a1:=h.ord (par i) hp0 hpn hpi (fun q=>by have:=par_lt hp0;omega)
  by_cases e:j=i
  ·rw [e,upd_same];exact a1
  ·rw [upd_ne _ _ e]
   have a2:=h.ord j h0 hj e (by rw [hpj];exact hpi)
   rw [hpj] at a2;exact O.ntr _ _ _ (h.okV j hj e) okp (h.okV _ (by have:=par_lt hp0;omega) hpp) a2 a1
theorem Hole.down {n:Nat} {T:Nat→Int×V} {i c:Nat} (h:Hole lt ok n T i) (hc0:0<c) (hc:c<n) (hpc:par c=i)
  (hmin:∀ j,0<j→j<n→par j=i→lt (T j).2 (T c).2=false):Hole lt ok n (upd T i (T c)) c:=by
 have hic:i<c:=by rw [←hpc];exact par_lt hc0
 have hci:c≠i:=by omega
 refine ⟨hc,?_,?_,?_⟩
 ·intro j hj hjc
  by_cases e:j=i
  ·subst e;rw [upd_same];exact h.okV c hc hci
  ·rw [upd_ne _ _ e];exact h.okV j hj e
 ·intro j h0 hj hjc hpj
  by_cases e:j=i
  ·subst e
   rw [upd_same,upd_ne _ _ (by have:=par_lt h0;omega)]
   exact h.skip c hc0 hc hpc h0
  ·rw [upd_ne _ _ e]
   by_cases e':par j=i
   ·rw [e',upd_same];exact hmin j h0 hj e'
   ·rw [upd_ne _ _ e'];exact h.ord j h0 hj e e'
 ·intro j h0 hj hpj _
  have e:j≠i:=by intro q;have:=par_lt h0;omega
  rw [upd_ne _ _ e,hpc,upd_same];have:=h.ord j h0 hj e (by rw [hpj];exact hci)
  rw [hpj] at this;exact this
theorem Hole.fill {n:Nat} {T:Nat→Int×V} {i:Nat} {k0:Int} {v:V} {M:Int→Option Nat} {A:Int→Option V} (h:Hole lt ok n T i) (g:Pl n T i k0 M A) (hv:ok v)
  (hup:0<i→lt v (T (par i)).2=false) (hdn:∀ j,0<j→j<n→par j=i→lt (T j).2 v=false) :
  Full lt ok n (upd T i (k0,v)) (updZ M k0 (some i)) (updZ A k0 (some v)) where
 okV:=by
  intro j hj
  by_cases e:j=i
  ·subst e;rw [upd_same];exact hv
  ·rw [upd_ne _ _ e];exact h.okV j hj e
 ord:=by
  intro j h0 hj;have:=par_lt h0
  by_cases e:j=i
  ·subst e;rw [upd_same,upd_ne _ _ (by omega)];exact hup h0
  ·rw [upd_ne _ _ e]
   by_cases e':par j=i
   ·rw [e',upd_same];exact hdn j h0 hj e'
   ·rw [upd_ne _ _ e'];exact h.ord j h0 hj e e'
 inj:=by
  intro j k hj hk hjk
  by_cases e:j=i <;> by_cases e':k=i
  ·omega
  ·subst e;rw [upd_same,upd_ne _ _ e'] at hjk;exact absurd hjk.symm (g.nk k hk e')
  ·subst e';rw [upd_same,upd_ne _ _ e] at hjk;exact absurd hjk (g.nk j hj e)
  ·rw [upd_ne _ _ e,upd_ne _ _ e'] at hjk;exact g.inj j k hj hk e e' hjk
 at_:=by
  intro k j
  by_cases e:k=k0
  ·subst e;rw [updZ_same]
   constructor
   ·intro q;cases q;exact ⟨h.lt_n,by rw [upd_same]⟩
   ·rintro ⟨h1,h2⟩
    by_cases e':j=i
    ·rw [e']
    ·rw [upd_ne _ _ e'] at h2;exact absurd h2 (g.nk j h1 e')
  ·rw [updZ_ne _ _ e,g.at_ k e j]
   constructor
   ·rintro ⟨h1,h2,h3⟩;exact ⟨h1,by rw [upd_ne _ _ h2];exact h3⟩
   ·rintro ⟨h1,h2⟩
    by_cases e':j=i
    ·subst e';rw [upd_same] at h2;exact absurd h2.symm e
    ·rw [upd_ne _ _ e'] at h2;exact ⟨h1,e',h2⟩
 con:=by
  intro k u
  by_cases e:k=k0
  ·subst e;rw [updZ_same]
   constructor
   ·intro q;cases q;exact ⟨i,h.lt_n,by rw [upd_same]⟩
   ·rintro ⟨j,h1,h2⟩
    by_cases e':j=i
    ·subst e';rw [upd_same] at h2;cases h2;rfl
    ·rw [upd_ne _ _ e'] at h2;exact absurd (by rw [h2]) (g.nk j h1 e')
  ·rw [updZ_ne _ _ e,g.con]
   constructor
   ·rintro ⟨j,h1,h2,h3⟩;exact ⟨j,h1,by rw [upd_ne _ _ h2];exact h3⟩
   ·rintro ⟨j,h1,h2⟩
    by_cases e':j=i
    ·subst e';rw [upd_same] at h2;cases h2;exact absurd rfl e
    ·rw [upd_ne _ _ e'] at h2;exact ⟨j,h1,e',h2⟩
theorem Full.free {n:Nat} {T:Nat→Int×V} {M:Int→Option Nat} {A:Int→Option V} (O:Odr lt ok) (h:Full lt ok n T M A) {k:Int} {i:Nat} (hi:M k=some i) :
  Hole lt ok n T i∧Pl n T i k M (updZ A k none):=by
 obtain ⟨h1,h2⟩:=(h.at_ k i).1 hi;refine ⟨⟨h1,fun j hj _=>h.okV j hj,fun j h0 hj _ _=>h.ord j h0 hj,fun j h0 hj hp hi0=>?_⟩,⟨?_,?_,?_,?_⟩⟩
 ·have a1:=h.ord j h0 hj
  rw [hp] at a1;exact O.ntr _ _ _ (h.okV j hj) (h.okV i h1) (h.okV _ (by have:=par_lt hi0;omega)) a1 (h.ord i hi0 h1)
 ·intro j hj e q;exact e (h.inj j i hj h1 (by rw [q,h2]))
 ·intro j k hj hk _ _ q;exact h.inj j k hj hk q
 ·intro k' e j
  rw [h.at_]
  constructor
  ·rintro ⟨a,b⟩;exact ⟨a,fun q=>e (by rw [←b,q,h2]),b⟩
  ·rintro ⟨a,_,b⟩;exact ⟨a,b⟩
 ·intro k' u
  by_cases e:k'=k
  ·subst e;rw [updZ_same]
   constructor
   ·intro q;cases q
   ·rintro ⟨j,a,b,c⟩;exact absurd (h.inj j i a h1 (by rw [h2,c])) b
  ·rw [updZ_ne _ _ e,h.con]
   constructor
   ·rintro ⟨j,a,b⟩;exact ⟨j,a,fun q=>e (by rw [←h2,←q,b]),b⟩
   ·rintro ⟨j,a,_,b⟩;exact ⟨j,a,b⟩
theorem Full.more {n:Nat} {T T':Nat→Int×V} {M:Int→Option Nat} {A:Int→Option V} (h:Full lt ok n T M A) {k:Int} (hk:M k=none) (hT:∀ j,j<n→T' j=T j) :
  Hole lt ok (n+1) T' n∧Pl (n+1) T' n k M (updZ A k none):=by
 have hA:=h.isnone hk;have low:∀ j,j<n+1→j≠n→j<n:=fun j a b=>by omega
 refine ⟨⟨by omega,?_,?_,?_⟩,⟨?_,?_,?_,?_⟩⟩
 ·intro j hj e;rw [hT j (low j hj e)];exact h.okV j (low j hj e)
 ·intro j h0 hj e _;have:=par_lt h0;rw [hT j (low j hj e),hT (par j) (by omega)];exact h.ord j h0 (low j hj e)
 ·intro j h0 hj e h1;unfold par at e;omega
 ·intro j hj e q
  rw [hT j (low j hj e)] at q;have:=(h.at_ k j).2 ⟨low j hj e,q⟩
  rw [hk] at this;cases this
 ·intro j i hj hi e e' q
  rw [hT j (low j hj e),hT i (low i hi e')] at q;exact h.inj j i (low j hj e) (low i hi e') q
 ·intro k' _ j
  rw [h.at_]
  constructor
  ·rintro ⟨a,b⟩;exact ⟨by omega,by omega,by rw [hT j a];exact b⟩
  ·rintro ⟨a,b,c⟩;rw [hT j (low j a b)] at c;exact ⟨low j a b,c⟩
 ·intro k' u
  have:updZ A k none k'=A k':=by
   by_cases e:k'=k
   ·subst e;rw [updZ_same,hA]
   ·rw [updZ_ne _ _ e]
  rw [this,h.con]
  constructor
  ·rintro ⟨j,a,b⟩;exact ⟨j,by omega,by omega,by rw [hT j a];exact b⟩
  ·rintro ⟨j,a,b,c⟩;rw [hT j (low j a b)] at c;exact ⟨j,low j a b,c⟩
theorem Full.drop {n:Nat} {T T':Nat→Int×V} {M:Int→Option Nat} {A:Int→Option V} (O:Odr lt ok) (h:Full lt ok (n+1) T M A) {k:Int} {i:Nat} (hi:M k=some i) (hn:i<n) (hT:∀ j,j<n→T' j=T j) :
  Hole lt ok n T' i∧Pl n T' i (T n).1 (updZ M k none) (updZ (updZ A k none) (T n).1 none):=by
 obtain ⟨h1,h2⟩:=(h.at_ k i).1 hi;refine ⟨⟨hn,?_,?_,?_⟩,⟨?_,?_,?_,?_⟩⟩
 ·intro j hj _;rw [hT j hj];exact h.okV j (by omega)
 ·intro j h0 hj _ _;have:=par_lt h0;rw [hT j hj,hT (par j) (by omega)];exact h.ord j h0 (by omega)
 ·intro j h0 hj hp hi0
  have:=par_lt hi0
  rw [hT j hj,hT (par i) (by omega)]
  have a1:=h.ord j h0 (by omega)
  rw [hp] at a1;exact O.ntr _ _ _ (h.okV j (by omega)) (h.okV i h1) (h.okV _ (by omega)) a1 (h.ord i hi0 h1)
 ·intro j hj e q
  rw [hT j hj] at q;have:=h.inj j n (by omega) (by omega) q
  omega
 ·intro j l hj hl _ _ q
  rw [hT j hj,hT l hl] at q;exact h.inj j l (by omega) (by omega) q
 ·intro k' e j
  by_cases e':k'=k
  ·subst e';rw [updZ_same]
   constructor
   ·intro q;cases q
   ·rintro ⟨a,b,c⟩;rw [hT j a] at c;exact absurd (h.inj j i (by omega) h1 (by rw [c,h2])) b
  ·rw [updZ_ne _ _ e',h.at_]
   constructor
   ·rintro ⟨a,b⟩
    have hjn:j<n:=by
     rcases Nat.lt_or_ge j n with q | q
     ·exact q
     ·exfalso;apply e;rw [←b];congr 2;omega
    exact ⟨hjn,fun q=>e' (by rw [←b,q,h2]),by rw [hT j hjn];exact b⟩
   ·rintro ⟨a,_,c⟩;rw [hT j a] at c;exact ⟨by omega,c⟩
 ·intro k' u
  by_cases e:k'=(T n).1
  ·subst e;rw [updZ_same]
   constructor
   ·intro q;cases q
   ·rintro ⟨j,a,b,c⟩
    rw [hT j a] at c;have:=h.inj j n (by omega) (by omega) (by rw [c])
    omega
  ·rw [updZ_ne _ _ e]
   by_cases e':k'=k
   ·subst e';rw [updZ_same]
    constructor
    ·intro q;cases q
    ·rintro ⟨j,a,b,c⟩;rw [hT j a] at c;exact absurd (h.inj j i (by omega) h1 (by rw [c,h2])) b
   ·rw [updZ_ne _ _ e',h.con]
    constructor
    ·rintro ⟨j,a,b⟩
     have hjn:j<n:=by
      rcases Nat.lt_or_ge j n with q | q
      ·exact q
      ·exfalso;apply e
       have:j=n:=by omega
       subst this;rw [b]
     exact ⟨j,hjn,fun q=>e' (by rw [←h2,←q,b]),by rw [hT j hjn];exact b⟩
    ·rintro ⟨j,a,_,c⟩;rw [hT j a] at c;exact ⟨j,by omega,c⟩
theorem Full.last {n:Nat} {T T':Nat→Int×V} {M:Int→Option Nat} {A:Int→Option V} (h:Full lt ok (n+1) T M A) {k:Int} (hi:M k=some n) (hT:∀ j,j<n→T' j=T j) :
  Full lt ok n T' (updZ M k none) (updZ A k none):=by
 obtain ⟨h1,h2⟩:=(h.at_ k n).1 hi;refine ⟨?_,?_,?_,?_,?_⟩
 ·intro j hj;rw [hT j hj];exact h.okV j (by omega)
 ·intro j h0 hj;have:=par_lt h0;rw [hT j hj,hT (par j) (by omega)];exact h.ord j h0 (by omega)
 ·intro j l hj hl q;rw [hT j hj,hT l hl] at q;exact h.inj j l (by omega) (by omega) q
 ·intro k' j
  by_cases e':k'=k
  ·subst e';rw [updZ_same]
   constructor
   ·intro q;cases q
   ·rintro ⟨a,c⟩;rw [hT j a] at c;have:=h.inj j n (by omega) h1 (by rw [c,h2]);omega
  ·rw [updZ_ne _ _ e',h.at_]
   constructor
   ·rintro ⟨a,b⟩
    have hjn:j<n:=by
     rcases Nat.lt_or_ge j n with q | q
     ·exact q
     ·exfalso;apply e'
      have:j=n:=by omega
      subst this;rw [←b,h2]
    exact ⟨hjn,by rw [hT j hjn];exact b⟩
   ·rintro ⟨a,c⟩;rw [hT j a] at c;exact ⟨by omega,c⟩
 ·intro k' u
  by_cases e':k'=k
  ·subst e';rw [updZ_same]
   constructor
   ·intro q;cases q
   ·rintro ⟨j,a,c⟩;rw [hT j a] at c;have:=h.inj j n (by omega) h1 (by rw [h2,c]);omega
  ·rw [updZ_ne _ _ e',h.con]
   constructor
   ·rintro ⟨j,a,b⟩
    have hjn:j<n:=by
     rcases Nat.lt_or_ge j n with q | q
     ·exact q
     ·exfalso;apply e'
      have:j=n:=by omega
      subst this;rw [←h2,b]
    exact ⟨j,hjn,by rw [hT j hjn];exact b⟩
   ·rintro ⟨j,a,c⟩;rw [hT j a] at c;exact ⟨j,by omega,c⟩
theorem Full.least {n:Nat} {T:Nat→Int×V} {M:Int→Option Nat} {A:Int→Option V} (O:Odr lt ok) (h:Full lt ok n T M A):∀ j,j<n→lt (T j).2 (T 0).2=false:=by
 intro j
 induction j using Nat.strongRecOn with
 | _ j ih =>
  intro hj
  rcases Nat.eq_zero_or_pos j with e | e
  ·subst e;exact O.irr _ (h.okV 0 hj)
  ·have hp:=par_lt e
   exact O.ntr _ _ _ (h.okV j hj) (h.okV _ (by omega)) (h.okV 0 (by omega)) (h.ord j e hj) (ih (par j) hp (by omega))
theorem Full.mn {n:Nat} {T:Nat→Int×V} {M:Int→Option Nat} {A:Int→Option V} (O:Odr lt ok) (h:Full lt ok n T M A) (hn:0<n) :
  A (T 0).1=some (T 0).2∧∀ k v,A k=some v→lt v (T 0).2=false:=by
 refine ⟨(h.con _ _).2 ⟨0,hn,rfl⟩,fun k v hk=>?_⟩;obtain ⟨j,h1,h2⟩:=(h.con _ _).1 hk;have:=h.least O j h1
 rw [h2] at this;exact this
theorem Full.zero {T:Nat→Int×V} {M:Int→Option Nat} {A:Int→Option V} (h:Full lt ok 0 T M A) (k:Int):A k=none:=by
 cases e:A k with
 | none=>rfl
 | some v=>obtain ⟨j,h1,_⟩:=(h.con _ _).1 e;omega
theorem par_cases {j i:Nat} (h0:0<j) (h:par j=i):j=2*i+1∨j=2*i+2:=by unfold par at h;omega
theorem par_left (i:Nat):par (2*i+1)=i:=by unfold par;omega
theorem par_right (i:Nat):par (2*i+2)=i:=by unfold par;omega
theorem pow_le30 {a m:Nat} (h:2 ^ a≤m) (hm:m<1073741824):a<30:=by
 rcases Nat.lt_or_ge a 30 with q | q
 ·exact q
 ·have:2 ^ 30≤2 ^ a:=Nat.pow_le_pow_right (by decide) q
  omega
end Go.Proofs.YthdengocipfgiaaGreat.W
namespace Go.Proofs.YthdengocipfgiaaGreat.W
open Go.RowKit Go.Maps Go.ChangeMaps Go.MapKept
structure Only (w w':World) (S:Nat→Prop):Prop where
 os:w'.os=w.os
 tape:w'.tape=w.tape
 output:w'.output=w.output
 size:w.heap.size≤w'.heap.size
 block:∀ k,k<w.heap.size→¬ S k→w'.heap[k]?=w.heap[k]?
theorem Only.refl (w:World) (S:Nat→Prop):Only w w S:=⟨rfl,rfl,rfl,Nat.le_refl _,fun _ _ _=>rfl⟩
theorem Only.trans {a b c:World} {S S':Nat→Prop} (h:Only a b S) (k:Only b c S') (hs:∀ j,S' j→S j∨a.heap.size≤j):Only a c S :=
 ⟨k.os.trans h.os,k.tape.trans h.tape,k.output.trans h.output,Nat.le_trans h.size k.size,fun j hj hn=>(k.block j (Nat.lt_of_lt_of_le hj h.size) (fun q=>by rcases hs j q with q | q;exact hn q;omega)).trans (h.block j hj hn)⟩
theorem Only.tr {a b c:World} {S:Nat→Prop} (h:Only a b S) (k:Only b c S):Only a c S:=h.trans k (fun _ q=>Or.inl q)
theorem Only.mono {a b:World} {S S':Nat→Prop} (h:Only a b S) (hs:∀ j,S j→S' j):Only a b S':=⟨h.os,h.tape,h.output,h.size,fun j hj hn=>h.block j hj (fun q=>hn (hs j q))⟩
theorem Only.grown {a b:World} {r:Nat} {S:Nat→Prop} (h:a.grownBy b (some r)) (hr:S r∨a.heap.size≤r):Only a b S :=
 ⟨h.os,h.tape,h.output,h.size,fun j hj hn=>h.block j hj (fun q=>by cases q;rcases hr with q | q;exact hn q;omega)⟩
theorem Only.grownN {a b:World} {S:Nat→Prop} (h:a.grownBy b none):Only a b S:=⟨h.os,h.tape,h.output,h.size,fun j hj _=>h.block j hj (by simp)⟩
theorem Only.below {B:Nat} {a b:World} {S:Nat→Prop} (h:Only a b S) (hs:∀ j,S j→B≤j) (hB:B≤a.heap.size):Below B a b:=⟨h.os,h.tape,h.output,h.size,fun j hj=>h.block j (by omega) (fun q=>by have:=hs j q;omega)⟩
theorem Only.of_below {a b:World} {S:Nat→Prop} (h:Below a.heap.size a b):Only a b S:=⟨h.os,h.tape,h.output,h.size,fun j hj _=>h.block j hj⟩
theorem Only.alloc {a b:World} {S:Nat→Prop} (h:Only a b S) (o:Obj):Only a (b.alloc o) S:=h.trans (Only.grownN (World.grownBy_alloc b o none)) (S':=S) (fun _ q=>Or.inl q)
theorem Only.drewN {a b:World} {S:Nat→Prop} (h:Only a b S) (n:Nat):Only a (b.drewN n) S:=⟨h.os,h.tape,h.output,h.size,h.block⟩
theorem Only.cell {a b:World} {S:Nat→Prop} (h:Only a b S) {x:Addr} {v:Value} (hx:¬ S x.block) (hc:a.cell? x=some v):b.cell? x=some v:=by
 rw [World.cell?_of_block (h.block x.block (cell_lt hc) hx)];exact hc
theorem Only.blk {a b:World} {S:Nat→Prop} (h:Only a b S) {x:Nat} {o:Obj} (hx:¬ S x) (hc:a.heap[x]?=some o):b.heap[x]?=some o:=by
 rw [h.block x (lt_of_row hc) hx];exact hc
theorem Only.lies {a b:World} {S:Nat→Prop} (h:Only a b S) {B:Nat} {A:Option Addr} {vs:List Value} (hl:Lies a B A vs) (hs:∀ j,S j→B≤j) (hB:B≤a.heap.size):Lies b B A vs :=
 hl.keep (fun j hj=>h.block j (by omega) (fun q=>by have:=hs j q;omega))
def RV:Value→Option (DataW Value×List MemPlace):=fun v=>some (.held v,[])
abbrev KL (x:Int):Lit:=.int .i64 x
def Mp (P:Program) (t:TypeId) (w:World) (b:Nat) (M:Int→Option Value) (c:Nat):Prop :=
 ∃ D,w.ownsMap P t RV b c D∧Maps.size D=c∧∀ x,(KL x).wf=true→Maps.has D (KL x)=(M x).isSome∧∀ v,M x=some v→∀ z,D.atKey (KL x) z=.held v
theorem Mp.lt {P:Program} {t:TypeId} {w:World} {b:Nat} {M:Int→Option Value} {c:Nat} (h:Mp P t w b M c):b<w.heap.size:=by obtain ⟨D,h,_⟩:=h;exact h.lt
theorem Mp.kept {P:Program} {t:TypeId} {w w':World} {b:Nat} {M:Int→Option Value} {c:Nat} {S:Nat→Prop} (h:Mp P t w b M c) (ho:Only w w' S) (hb:¬ S b):Mp P t w' b M c:=by
 have hl:=h.lt;obtain ⟨D,⟨es,clock,h1,h2,h3,h4⟩,h5,h6⟩:=h;exact ⟨D,⟨es,clock,by rw [ho.block b hl hb];exact h1,h2,h3,h4⟩,h5,h6⟩
theorem Mp.made (P:Program) (t:TypeId) (w:World):Mp P t (w.alloc (.map #[] 0)) w.heap.size (fun _=>none) 0 :=
 ⟨.map [],World.ownsMap_made w P t RV,rfl,fun x _=>⟨rfl,fun v h=>by cases h⟩⟩
theorem Mp.row {P:Program} {t:TypeId} {w:World} {b:Nat} {M:Int→Option Value} {c:Nat} (h:Mp P t w b M c):∃ es clock,w.heap[b]?=some (.map es clock):=by
 obtain ⟨D,⟨es,clock,h,_⟩,_⟩:=h;exact ⟨es,clock,h⟩
theorem tight {P:Program} {t:TypeId} {w:World} {b n:Nat} {D:DataW Value} (h:w.ownsMap P t RV b n D):w.ownsMap P t RV b (Maps.size D) D:=by
 obtain ⟨es,clock,h1,h2,h3,rfl⟩:=h;exact ⟨es,clock,h1,h2,by rw [Maps.size_eq,length_read];exact Nat.le_refl _,rfl⟩
theorem Mp.ext {P:Program} {t:TypeId} {w:World} {b:Nat} {M M':Int→Option Value} {c:Nat} (h:Mp P t w b M c) (e:∀ x,(KL x).wf=true→M x=M' x):Mp P t w b M' c:=by
 obtain ⟨D,h1,h2,h3⟩:=h;exact ⟨D,h1,h2,fun x hx=>by rw [←e x hx];exact h3 x hx⟩
section
variable {P:Program} {w:World} {ops:Array Oper} {rest:List Oper} {o:Oper} {a:Act} {Q:Exit→Act→World→Prop}
theorem wpList_mp_ok (hg:o.guard=none) (m x:Operand) (t:TypeId) (hop:o.op=Op.lookup t m x true) (k e:TypeId) (hk:P.underlying k=some (.int .i64)) (ht:P.underlying t=some (.map k e))
  {z:Value} (hz:(zeroValue e).run P w=.ok z w) (b:Nat) (M:Int→Option Value) (c:Nat) (hm:a.eval m=.map (some b)) (h:Mp P k w b M c) (n:Int) (hx:a.eval x=.int .i64 n) (hw:(KL n).wf=true)
  (r:Option Value) (hr:M n=r) (hK:wpList P ops Q rest (a.put o.dst (.tuple #[r.getD z,.bool r.isSome])) w):wpList P ops Q (o :: rest) a w:=by
 obtain ⟨D,h1,h2,h3⟩:=h;refine wpList_lookup_own_ok w hg m x t hop k e (int_keyed hk) ht RV hz (.held z) [] rfl b c D hm h1 (.int .i64 n) (KL n) hx (keyOf_int_mk hk hw) ?_;intro v ps hv;obtain ⟨h4,h5⟩:=h3 n hw;rw [h4,hr]
 have:v=r.getD z:=by
  unfold RV at hv
  cases r with
  | none =>
   rw [hr] at h4;rw [Maps.atKey_of_not_has h4] at hv;simp at hv;exact hv.1
  | some u =>
   rw [h5 u hr] at hv;simp at hv;exact hv.1
 rw [this];exact hK
theorem wpList_mp_len (hg:o.guard=none) (m:Operand) (t:TypeId) (hop:o.op=Op.call { callee:=Callee.builtin Builtin.len,args:=#[m],argTypes:=#[t] }) (k e:TypeId) (ht:P.underlying t=some (.map k e))
  (b:Nat) (M:Int→Option Value) (c:Nat) (hm:a.eval m=.map (some b)) (h:Mp P k w b M c) (hK:wpList P ops Q rest (a.put o.dst (.int .i64 (c:Int))) w):wpList P ops Q (o :: rest) a w:=by
 obtain ⟨D,h1,h2,h3⟩:=h;refine wpList_len_own w hg m t hop k e ht RV b c D hm h1 ?_;rw [h2];exact hK
theorem wpList_mp_del (hg:o.guard=none) (m x:Operand) (t k:TypeId) (hop:o.op=Op.call { callee:=Callee.builtin Builtin.delete,args:=#[m,x],argTypes:=#[t,k] }) (e:TypeId) (hk:P.underlying k=some (.int .i64)) (ht:P.underlying t=some (.map k e))
  (b:Nat) (M:Int→Option Value) (c:Nat) (hm:a.eval m=.map (some b)) (h:Mp P k w b M c) (n:Int) (hx:a.eval x=.int .i64 n) (hw:(KL n).wf=true)
  (c':Nat) (hc:c'=if (M n).isSome then c-1 else c) (hK:∀ w',Mp P k w' b (updZ M n none) c'→w.grownBy w' (some b)→wpList P ops Q rest (a.put o.dst (.tuple #[])) w'):wpList P ops Q (o :: rest) a w:=by
 obtain ⟨D,h1,h2,h3⟩:=h;refine wpList_delete_own w hg m x t k hop e (int_keyed hk) ht RV b c D hm h1 (.int .i64 n) (KL n) hx (keyOf_int_mk hk hw) ?_;intro w' h4 h5;have hs:=Maps.size_del (k:=KL n) (h1.tidy (int_keyed hk));rw [(h3 n hw).1] at hs
 have hh:Maps.size (D.del (KL n))=c':=by
  rw [hc]
  cases q:(M n).isSome <;> simp [q] at hs ⊢ <;> omega
 refine hK w' ⟨D.del (KL n),by rw [←hh];exact tight h4,hh,?_⟩ h5.grown
 intro x hx
 by_cases e:x=n
 ·subst e;rw [updZ_same];exact ⟨Maps.has_del_same,fun v h=>by cases h⟩
 ·have ne:KL x≠KL n:=by intro q;apply e;injection q
  rw [updZ_ne _ _ e,Maps.has_del_other ne];exact ⟨(h3 x hx).1,fun v hv z=>by rw [Maps.atKey_del_other ne];exact (h3 x hx).2 v hv z⟩
theorem wpList_mp_set (hg:o.guard=none) (m x v:Operand) (t:TypeId) (hop:o.op=Op.mapUpdate t m x v) (k e:TypeId) (hk:P.underlying k=some (.int .i64)) (ht:P.underlying t=some (.map k e))
  (b:Nat) (M:Int→Option Value) (c:Nat) (hm:a.eval m=.map (some b)) (h:Mp P k w b M c) (hc0:c<maxLen) (n:Int) (hx:a.eval x=.int .i64 n) (hw:(KL n).wf=true) (val:Value) (hv:a.eval v=val)
  (c':Nat) (hc:c'=if (M n).isSome then c else c+1) (hK:∀ w',Mp P k w' b (updZ M n (some val)) c'→w.grownBy w' (some b)→wpList P ops Q rest (a.put o.dst undef) w'):wpList P ops Q (o :: rest) a w:=by
 obtain ⟨D,h1,h2,h3⟩:=h;refine wpList_mapUpdate_own w hg m x v t hop k e (int_keyed hk) ht RV b c D hm h1 hc0 (.int .i64 n) val (KL n) hx hv (keyOf_int_mk hk hw) (.held val) [] rfl ?_;intro w' h4 h5;have hs:=Maps.size_put (k:=KL n) (h1.tidy (int_keyed hk)) (.held val);rw [(h3 n hw).1] at hs;have hh:Maps.size (D.put (KL n) (.held val))=c':=by rw [hs,hc,h2]
 refine hK w' ⟨_,by rw [←hh];exact tight h4,hh,?_⟩ h5
 intro x hx;have hkl:WideAt.IsKeyLit (KL n):=trivial
 by_cases e:x=n
 ·subst e;rw [updZ_same];exact ⟨Maps.has_put_same h1.isMap hkl _,fun v h z=>by cases h;exact Maps.atKey_put_same h1.isMap hkl _ _⟩
 ·have ne:KL x≠KL n:=by intro q;apply e;injection q
  rw [updZ_ne _ _ e,Maps.has_put_other ne];exact ⟨(h3 x hx).1,fun v hv z=>by rw [Maps.atKey_put_other ne];exact (h3 x hx).2 v hv z⟩
theorem wpList_nilmap_ok (hg:o.guard=none) (m x:Operand) (t:TypeId) (hop:o.op=Op.lookup t m x true) (k e:TypeId) (hk:P.underlying k=some (.int .i64)) (ht:P.underlying t=some (.map k e))
  {z:Value} (hz:(zeroValue e).run P w=.ok z w) (hm:a.eval m=.map none) (n:Int) (hx:a.eval x=.int .i64 n) (hw:(KL n).wf=true)
  (hK:wpList P ops Q rest (a.put o.dst (.tuple #[z,.bool false])) w):wpList P ops Q (o :: rest) a w:=by
 refine wpList_plain hg fun K' hK'=>?_;have:=Maps.look_nil (w:=w) true (int_keyed hk) ht hz (keyOf_int_mk hk hw)
 unfold Oper.wp;simp at this;simp [execOp,hop,hm,hx,this,Result.andThen];exact hK' _ _ hK
end
end Go.Proofs.YthdengocipfgiaaGreat.W
namespace Go.Proofs.YthdengocipfgiaaGreat.W
open Go.RowKit
structure Enc {I:Type} (ic:I→List Value) (sz:Nat):Prop where
 len:∀ x,(ic x).length=sz
 pos:0<sz
 one:∀ x,∀ u ∈ ic x,u.oneCell'=true
def Row {I:Type} (ic:I→List Value) (sz:Nat) (t:TypeId) (w:World) (g n cap:Nat) (T:Nat→I):Prop :=
 ∃ cur:List Value,w.heap[g]?=some (.cells cur.toArray t (0,0))∧cur.length=cap*sz∧n≤cap∧cap≤maxLen∧∀ j,j<n→∀ c u,(ic (T j))[c]?=some u→cur[j*sz+c]?=some u
variable {I:Type} {ic:I→List Value} {sz:Nat} {t:TypeId} {w w':World} {g n cap:Nat} {T T':Nat→I}
theorem Row.lt (h:Row ic sz t w g n cap T):g<w.heap.size:=by obtain ⟨cur,h,_⟩:=h;exact lt_of_row h
theorem Row.cap_ (h:Row ic sz t w g n cap T):n≤cap∧cap≤maxLen:=by obtain ⟨cur,_,_,h,h',_⟩:=h;exact ⟨h,h'⟩
theorem Row.kept {S:Nat→Prop} (h:Row ic sz t w g n cap T) (ho:Only w w' S) (hg:¬ S g):Row ic sz t w' g n cap T:=by
 have hl:=h.lt;obtain ⟨cur,h1,h2⟩:=h;exact ⟨cur,by rw [ho.block g hl hg];exact h1,h2⟩
theorem Row.less {m:Nat} (h:Row ic sz t w g n cap T) (hm:m≤n):Row ic sz t w g m cap T:=by
 obtain ⟨cur,h1,h2,h3,h4,h5⟩:=h;exact ⟨cur,h1,h2,by omega,h4,fun j hj=>h5 j (by omega)⟩
theorem Row.ext (h:Row ic sz t w g n cap T) (e:∀ j,j<n→T' j=T j):Row ic sz t w g n cap T':=by
 obtain ⟨cur,h1,h2,h3,h4,h5⟩:=h;exact ⟨cur,h1,h2,h3,h4,fun j hj=>by rw [e j hj];exact h5 j hj⟩
theorem Row.range (h:Row ic sz t w g n cap T) {j:Nat} (hj:j<n):w.rangeAt g (j*sz) (ic (T j)):=by
 obtain ⟨cur,h1,h2,h3,h4,h5⟩:=h;intro c u hu;exact cellL h1 _ _ (h5 j hj c u hu)
theorem Row.cell (h:Row ic sz t w g n cap T) {j:Nat} (hj:j<n) {c:Nat} {u:Value} (hu:(ic (T j))[c]?=some u) {k:Nat} (hk:k=j*sz+c):w.cell? ⟨g,k,none⟩=some u:=by
 rw [hk];exact h.range hj c u hu
def setL:List Value→Nat→List Value→List Value
 | cur,_,[]=>cur
 | cur,o,v :: r=>setL (cur.set o v) (o+1) r
theorem setL_len:∀ (vs cur:List Value) (o:Nat),(setL cur o vs).length=cur.length
 | [],_,_=>rfl
 | v :: r,cur,o=>by rw [setL,setL_len r,List.length_set]
theorem setL_out:∀ (vs cur:List Value) (o j:Nat),(j<o∨o+vs.length≤j)→(setL cur o vs)[j]?=cur[j]?
 | [],_,_,_,_=>rfl
 | v :: r,cur,o,j,h=>by
  rw [setL,setL_out r _ _ j (by simp at h;omega),List.getElem?_set_ne (by simp at h;omega)]
theorem setL_in:∀ (vs cur:List Value) (o c:Nat),o+vs.length≤cur.length→c<vs.length→(setL cur o vs)[o+c]?=vs[c]?
 | [],_,_,_,_,h=>by simp at h
 | v :: r,cur,o,c,h,hc=>by
  rw [setL]
  cases c with
  | zero =>
   rw [setL_out r _ _ _ (by omega)]
   have:o<cur.length:=by simp at h;omega
   simp [this]
  | succ c =>
   have:=setL_in r (cur.set o v) (o+1) c (by simp at h ⊢;omega) (by simp at hc;omega)
   rw [show o+(c+1)=o+1+c by omega,this];rfl
theorem setCells_row (b:Nat) (t:TypeId):∀ (vs cur:List Value) (o:Nat) (w:World),w.heap[b]?=some (.cells cur.toArray t (0,0))→(w.setCells b o vs).heap[b]?=some (.cells (setL cur o vs).toArray t (0,0))∧w.grownBy (w.setCells b o vs) (some b)
 | [],cur,o,w,h=>⟨h,World.grownBy.refl _ _⟩
 | v :: r,cur,o,w,h=>by
  rw [World.setCells,setL];have h1:=set_rowL h o v;have h2:=grown_set w 0 b o v;obtain ⟨h3,h4⟩:=setCells_row b t r _ (o+1) _ h1;exact ⟨h3,grown_trans h2 h4⟩
theorem Row.set (E:Enc ic sz) (h:Row ic sz t w g n cap T) {j:Nat} (hj:j<n) (x:I):Row ic sz t (w.setCells g (j*sz) (ic x)) g n cap (upd T j x)∧w.grownBy (w.setCells g (j*sz) (ic x)) (some g):=by
 obtain ⟨cur,h1,h2,h3,h4,h5⟩:=h;obtain ⟨h6,h7⟩:=setCells_row g t (ic x) cur (j*sz) w h1;have hjc:(j+1)*sz≤cap*sz:=Nat.mul_le_mul_right _ (by omega)
 rw [Nat.add_mul,Nat.one_mul] at hjc;refine ⟨⟨_,h6,by rw [setL_len];exact h2,h3,h4,?_⟩,h7⟩
 intro k hk c u hu
 by_cases e:k=j
 ·subst e
  rw [upd_same] at hu;have hc:=(List.getElem?_eq_some_iff.1 hu).1;rw [setL_in _ _ _ _ (by rw [E.len,h2];exact hjc) hc];exact hu
 ·rw [upd_ne _ _ e] at hu
  have hc:c<sz:=by rw [←E.len (T k)];exact (List.getElem?_eq_some_iff.1 hu).1
  rw [setL_out]
  ·exact h5 k hk c u hu
  ·rw [E.len]
   rcases Nat.lt_or_ge k j with q | q
   ·left
    have:(k+1)*sz≤j*sz:=Nat.mul_le_mul_right _ (by omega)
    rw [Nat.add_mul,Nat.one_mul] at this;omega
   ·right
    have:(j+1)*sz≤k*sz:=Nat.mul_le_mul_right _ (by omega)
    rw [Nat.add_mul,Nat.one_mul] at this;omega
theorem Row.there (h:Row ic sz t w g n cap T) {j:Nat} (hj:j<n):w.there g (j*sz) sz:=by
 obtain ⟨cur,h1,h2,h3,h4,h5⟩:=h;have hjc:(j+1)*sz≤cap*sz:=Nat.mul_le_mul_right _ (by omega)
 rw [Nat.add_mul,Nat.one_mul] at hjc;intro c hc;exact ⟨by rw [cellL h1 _ _ (List.getElem?_eq_getElem (by omega))];rfl,frozen_of_row _ _ _ _ _ h1⟩
def flat (ic:I→List Value) (T:Nat→I) (n:Nat):List Value:=(List.range n).flatMap (fun j=>ic (T j))
theorem flat_succ (T:Nat→I) (n:Nat):flat ic T (n+1)=flat ic T n ++ ic (T n):=by simp [flat,List.range_succ]
theorem flat_len (E:Enc ic sz) (T:Nat→I):∀ n,(flat ic T n).length=n*sz
 | 0=>by simp [flat]
 | n+1=>by rw [flat_succ,List.length_append,flat_len E T n,E.len,Nat.add_mul,Nat.one_mul]
theorem flat_at (E:Enc ic sz) (T:Nat→I):∀ (n j c:Nat),j<n→c<sz→(flat ic T n)[j*sz+c]?=(ic (T j))[c]?
 | 0,_,_,h,_=>by omega
 | n+1,j,c,h,hc=>by
  rw [flat_succ]
  by_cases e:j=n
  ·subst e
   rw [List.getElem?_append_right (by rw [flat_len E];omega),flat_len E]
   congr 1;omega
  ·have:(j+1)*sz≤n*sz:=Nat.mul_le_mul_right _ (by omega)
   rw [Nat.add_mul,Nat.one_mul] at this;rw [List.getElem?_append_left (by rw [flat_len E];omega)]
   exact flat_at E T n j c (by omega) hc
theorem flat_ext {n:Nat} (e:∀ j,j<n→T' j=T j):flat ic T' n=flat ic T n:=by
 unfold flat;rw [List.flatMap_def,List.flatMap_def];congr 1
 apply List.map_congr_left
 intro j hj;rw [e j (by simpa using hj)]
theorem Row.owns (E:Enc ic sz) (h:Row ic sz t w g n cap T):w.ownsRow 0 t sz (.slice (some ⟨g,0,none⟩) n cap) n (flat ic T n):=by
 obtain ⟨cur,h1,h2,h3,h4,h5⟩:=h;have hnc:n*sz≤cap*sz:=Nat.mul_le_mul_right _ h3;refine ⟨flat_len E T n,Or.inr ⟨g,cap,cur.toArray,rfl,Nat.zero_le _,h1,h3,h4,by simp [h2],?_⟩⟩
 apply List.ext_getElem?
 intro k
 rcases Nat.lt_or_ge k (n*sz) with q | q
 ·have hs:=E.pos
  have hk:k=k / sz*sz+k % sz:=by rw [Nat.mul_comm];exact (Nat.div_add_mod k sz).symm
  have hj:k / sz<n:=(Nat.div_lt_iff_lt_mul hs).2 q;have hc:k % sz<sz:=Nat.mod_lt _ hs;have h7:=flat_at E T n _ _ hj hc;rw [←hk] at h7;rw [h7,List.getElem?_take_of_lt q];obtain ⟨u,hv⟩:∃ u,(ic (T (k / sz)))[k % sz]?=some u:=⟨_,List.getElem?_eq_getElem (by rw [E.len];exact hc)⟩
  have h6:=h5 _ hj _ _ hv;rw [←hk] at h6;rw [hv];exact h6
 ·rw [List.getElem?_eq_none (by simp;omega),List.getElem?_eq_none (by rw [flat_len E];exact q)]
theorem Row.of_owns (E:Enc ic sz) (h:w.ownsRow 0 t sz (.slice (some ⟨g,0,none⟩) n cap) n (flat ic T n)):Row ic sz t w g n cap T:=by
 rcases h.2 with ⟨hv,_⟩ | ⟨g',cap',cur,hv,_,h1,h3,h4,h2,h5⟩
 ·cases hv
 ·injection hv with e1 e2 e3
  cases e1;cases e3
  refine ⟨cur.toList,by simpa using h1,by simpa using h2,h3,h4,?_⟩
  intro j hj c u hu;have hc:c<sz:=by rw [←E.len (T j)];exact (List.getElem?_eq_some_iff.1 hu).1
  have:(j+1)*sz≤n*sz:=Nat.mul_le_mul_right _ (by omega)
  rw [Nat.add_mul,Nat.one_mul] at this;have h6:=flat_at E T n j c hj hc;rw [←h5,List.getElem?_take_of_lt (by omega),hu] at h6
  exact h6
def Its (ic:I→List Value) (sz:Nat) (t:TypeId) (w:World) (sv:Value) (G:Option Nat) (n:Nat) (T:Nat→I):Prop :=
 (G=none∧sv=.slice none 0 0∧n=0)∨∃ g cap,G=some g∧sv=.slice (some ⟨g,0,none⟩) n cap∧Row ic sz t w g n cap T
theorem Its.kept {sv:Value} {G:Option Nat} {S:Nat→Prop} (h:Its ic sz t w sv G n T) (ho:Only w w' S) (hg:∀ g,G=some g→¬ S g):Its ic sz t w' sv G n T:=by
 rcases h with h | ⟨g,cap,h1,h2,h3⟩
 ·exact Or.inl h
 ·exact Or.inr ⟨g,cap,h1,h2,h3.kept ho (hg g h1)⟩
theorem Its.lt {sv:Value} {G:Option Nat} (h:Its ic sz t w sv G n T):∀ g,G=some g→g<w.heap.size:=by
 rcases h with ⟨rfl,_⟩ | ⟨g,cap,rfl,_,h3⟩
 ·intro g h;cases h
 ·intro g' h;cases h;exact h3.lt
theorem Its.some_ {sv:Value} {G:Option Nat} (h:Its ic sz t w sv G n T) (hn:0<n):∃ g cap,G=some g∧sv=.slice (some ⟨g,0,none⟩) n cap∧Row ic sz t w g n cap T:=by
 rcases h with ⟨_,_,rfl⟩ | h
 ·omega
 ·exact h
theorem Its.slice {sv:Value} {G:Option Nat} (h:Its ic sz t w sv G n T):∃ A cap,sv=.slice A n cap∧n≤cap∧cap≤maxLen:=by
 rcases h with ⟨_,rfl,rfl⟩ | ⟨g,cap,_,rfl,h3⟩
 ·exact ⟨none,0,rfl,Nat.le_refl _,Nat.zero_le _⟩
 ·exact ⟨_,cap,rfl,h3.cap_⟩
section
variable {P:Program} {ops:Array Oper} {rest:List Oper} {o:Oper} {a:Act} {Q:Exit→Act→World→Prop}
theorem wpList_item_at (hgd:o.guard=none) (ty:TypeId) (x ix:Operand) (ho:o.op=.indexAddr ty x ix) (e:TypeId) (hu:P.underlying ty=some (.slice e)) (hsz:(P.info? e).map (·.size)=some sz)
  (g n cap:Nat) (hx:a.eval x=.slice (some ⟨g,0,none⟩) n cap) (j:Nat) (q:Int) (hi:a.eval ix=.int .i64 q) (hq:q=(j:Int)) (hj:j<n)
  (h:wpList P ops Q rest (a.put o.dst (.pointer (some ⟨g,j*sz,none⟩))) w):wpList P ops Q (o :: rest) a w:=by
 subst hq;refine wpList_plain hgd fun K hK=>?_
 cases hq:P.info? e with
 | none=>simp [hq] at hsz
 | some ie =>
  have hs:ie.size=sz:=by simpa [hq] using hsz
  have hrun:(Instr.indexAt ty (.slice (some ⟨g,0,none⟩) n cap) (.int .i64 (j:Int))).run P w=.ok (.pointer (some ⟨g,j*sz,none⟩)) w:=by
   simp [Instr.indexAt,asIntOf,run_underlying hu,sizeOf,typeInfo,hq,hs,hj,Addr.add_mid]
  unfold Oper.wp execOp;simp only [ho,hx,hi,hrun,Sem.run_bind,Sem.run_pure,Result.andThen];exact hK _ _ h
theorem wpList_item_set (E:Enc ic sz) (hgd:o.guard=none) (ty:TypeId) (x y:Operand) (ho:o.op=.store ty x y) (hsz:(P.info? ty).map (·.size)=some sz)
  (g n cap j:Nat) (T:Nat→I) (hx:a.eval x=.pointer (some ⟨g,j*sz,none⟩)) (u:I) (hy:a.eval y=.agg (ic u).toArray) (hr:Row ic sz t w g n cap T) (hj:j<n)
  (h:∀ w',Row ic sz t w' g n cap (upd T j u)→w.grownBy w' (some g)→wpList P ops Q rest (a.put o.dst undef) w'):wpList P ops Q (o :: rest) a w:=by
 refine wpList_store_mid hgd ty x y ho g (j*sz) (ic u).toArray hx hy (by simpa [E.len] using hr.there hj) (by simpa [E.len] using hsz) (all_oneCell_toArray (E.one u)) ?_
 obtain ⟨h1,h2⟩:=hr.set E hj u;exact h _ h1 h2
theorem wpList_item_app (E:Enc ic sz) (hgd:o.guard=none) (s x:Operand) (ty:TypeId) (ho:o.op=.call { callee:=.builtin .append,args:=#[s,x],argTypes:=#[ty,ty] })
  (i:TypeInfo) (z:Value) (bytes:Nat) (ht:P.underlying ty=some (.slice t)) (hi:P.info? t=some i) (hz:i.zero=some z) (hsize:i.size=sz) (hby:i.bytes=bytes) (hzs:z.cells.size=sz)
  (sv:Value) (G:Option Nat) (n:Nat) (T:Nat→I) (hs:a.eval s=sv) (hits:Its ic sz t w sv G n T) (u:I) (H:Nat) (hx:a.eval x=.slice (some ⟨H,0,none⟩) 1 1) (hH:w.rangeAt H 0 (ic u)) (hn:n+1≤maxLen) (hbytes:(n+1)*bytes≤140737488355328)
  (h:∀ g cap w',Row ic sz t w' g (n+1) cap (upd T n u)→(∀ S:Nat→Prop,(∀ g',G=some g'→S g')→Only w w' S)→(G=some g∨w.heap.size≤g)→wpList P ops Q rest (a.put o.dst (.slice (some ⟨g,0,none⟩) (n+1) cap)) w'):wpList P ops Q (o :: rest) a w:=by
 have hown:w.ownsRow 0 t sz sv n (flat ic T n)∧sv.ownBlock=G:=by
  rcases hits with ⟨rfl,rfl,rfl⟩ | ⟨g,cap,rfl,rfl,h3⟩
  ·exact ⟨⟨by simp [flat],Or.inl ⟨rfl,rfl⟩⟩,rfl⟩
  ·exact ⟨h3.owns E,rfl⟩
 refine wpList_append_lies w hgd s x ty ho 0 t i z sz bytes ht hi hz hsize hby hzs E.pos sv n (flat ic T n) hs hown.1 ⟨H,0,none⟩ 1 1 (ic u) hx (by rw [E.len,Nat.one_mul]) ?_ (E.one u) (by omega) hn hbytes (Nat.zero_le _) _ rfl ?_
 ·intro j v hv
  rw [Addr.add_mid];exact hH j v hv
 ·intro g cap w' h1 h2 h3 h4
  refine h g cap w' (Row.of_owns E ?_) ?_ ?_
  ·rw [flat_succ,upd_same,flat_ext (T':=upd T n u) (T:=T) (fun j hj=>upd_ne _ _ (by omega))];exact h1
  ·intro S hS
   rw [hown.2] at h2;exact ⟨h2.os,h2.tape,h2.output,h2.size,fun k hk hn=>h2.block k hk (fun q=>hn (hS k q.symm))⟩
  ·rw [hown.2] at h3
   rcases h3 with h3 | h3
   ·exact Or.inl h3
   ·exact Or.inr (by omega)
end
end Go.Proofs.YthdengocipfgiaaGreat.W
namespace Go.Proofs.YthdengocipfgiaaGreat.W
open Go.RowKit
theorem run_equalIn_func_nil {P:Program} {t:TypeId} {ps rs:Array TypeId} {vd:Bool} (w:World) (d:Nat) (h:P.underlying t=some (.func ps rs vd)) (fn:Fn) (fi ca:Array Value):(Op.equalIn (d+1) t (.func fn fi ca) .nilFunc).run P w=.ok false w:=by
 simp [Op.equalIn,run_underlying h]
theorem run_neq_func_nil {P:Program} {t:TypeId} {ps rs:Array TypeId} {vd:Bool} (h:P.underlying t=some (.func ps rs vd)) (w:World) (fn:Fn) (fi ca:Array Value):(binOp .neq t (.func fn fi ca) .nilFunc).run P w=.ok (.bool true) w:=by
 simp only [binOp];simp [Op.equal,Op.maxDepth,run_equalIn_func_nil w 9999 h fn fi ca]
theorem len3_1 (a b c:Value):1 < [a,b,c].length:=by simp
theorem len3_2 (a b c:Value):2 < [a,b,c].length:=by simp
theorem len2_0 (a b:Value):0 < [a,b].length:=by simp
theorem cells_map (x:Option Nat):(Value.map x).cells=#[.map x]:=rfl
theorem one_map (x:Option Nat):(Value.map x).oneCell'=true:=rfl
theorem cells_slice (x:Option Addr) (a b:Nat):(Value.slice x a b).cells=#[.slice x a b]:=rfl
theorem one_slice (x:Option Addr) (a b:Nat):(Value.slice x a b).oneCell'=true:=rfl
theorem cells_ptr (x:Option Addr):(Value.pointer x).cells=#[.pointer x]:=rfl
theorem one_ptr (x:Option Addr):(Value.pointer x).oneCell'=true:=rfl
theorem range_new (w:World) (cs:List Value) (t:TypeId):(w.alloc (.cells cs.toArray t)).rangeAt w.heap.size 0 cs:=fun j v hv=>by rw [Nat.zero_add];exact cellL (heap_alloc_new w _) j v hv
section
variable {P:Program} {w:World} {ops:Array Oper} {rest:List Oper} {o:Oper} {a:Act} {Q:Exit→Act→World→Prop}
theorem wpList_mp_some (hg:o.guard=none) (m x:Operand) (t:TypeId) (hop:o.op=Op.lookup t m x true) (k e:TypeId) (hk:P.underlying k=some (.int .i64)) (ht:P.underlying t=some (.map k e))
  {z:Value} (hz:(zeroValue e).run P w=.ok z w) (b:Nat) (M:Int→Option Value) (c:Nat) (hm:a.eval m=.map (some b)) (h:Mp P k w b M c) (n:Int) (hx:a.eval x=.int .i64 n) (hw:(KL n).wf=true)
  (v:Value) (hr:M n=some v) (hK:wpList P ops Q rest (a.put o.dst (.tuple #[v,.bool true])) w):wpList P ops Q (o :: rest) a w :=
 wpList_mp_ok hg m x t hop k e hk ht hz b M c hm h n hx hw (some v) hr hK
theorem wpList_mp_none (hg:o.guard=none) (m x:Operand) (t:TypeId) (hop:o.op=Op.lookup t m x true) (k e:TypeId) (hk:P.underlying k=some (.int .i64)) (ht:P.underlying t=some (.map k e))
  {z:Value} (hz:(zeroValue e).run P w=.ok z w) (b:Nat) (M:Int→Option Value) (c:Nat) (hm:a.eval m=.map (some b)) (h:Mp P k w b M c) (n:Int) (hx:a.eval x=.int .i64 n) (hw:(KL n).wf=true)
  (hr:M n=none) (hK:wpList P ops Q rest (a.put o.dst (.tuple #[z,.bool false])) w):wpList P ops Q (o :: rest) a w :=
 wpList_mp_ok hg m x t hop k e hk ht hz b M c hm h n hx hw none hr hK
theorem wpList_store_one (hgd:o.guard=none) (ty:TypeId) (p y:Operand) (ho:o.op=.store ty p y) (hsz:(P.info? ty).map (·.size)=some 1)
  (b j:Nat) (hp:a.eval p=.pointer (some ⟨b,j,none⟩)) (u:Value) (hy:a.eval y=u) (h1:u.cells=#[u]) (h1':u.oneCell'=true) (cur:List Value) (t:TypeId) (hg:w.heap[b]?=some (.cells cur.toArray t (0,0))) (hj:j<cur.length)
  (h:∀ w',Hid (w'.heap[b]?=some (.cells (cur.set j u).toArray t (0,0)))→w.grownBy w' (some b)→wpList P ops Q rest (a.put o.dst undef) w'):wpList P ops Q (o :: rest) a w:=by
 refine wpList_plain hgd fun K hK=>?_
 cases hq:P.info? ty with
 | none=>simp [hq] at hsz
 | some i =>
  have hs:i.size=1:=by simpa [hq] using hsz
  have h2:=run_storeCells_cells (P:=P) b j [u] 0 w (fun i hi=>by
   obtain rfl:i=0:=by simp at hi;omega
   rw [show j+0+0=j from rfl,cellL hg j _ (List.getElem?_eq_getElem hj)];rfl) (fun i hi=>by
   obtain rfl:i=0:=by simp at hi;omega
   exact frozen_of_row w b _ _ _ hg) (by simpa using h1')
  simp only [World.setCells,Nat.add_zero] at h2
  have hrun:(Instr.storeAt ty (.pointer (some ⟨b,j,none⟩)) u).run P w=.ok () (w.setCell ⟨b,j,none⟩ u):=by
   simp [Instr.storeAt,Instr.sureAddr,storeVar,sizeOf,typeInfo,hq,hs,h1,h2]
  unfold Oper.wp execOp;simp only [ho,hp,hy,hrun,Sem.run_bind,Sem.run_pure,Result.andThen];refine hK _ _ (h _ (show _=_ from set_rowL hg j _) (grown_set w 0 b j _))
end
end Go.Proofs.YthdengocipfgiaaGreat.W
namespace Go.Proofs.YthdengocipfgiaaGreat.W
open Go.RowKit Go.Maps Go.ChangeMaps Go.MapKept
def Ri (P:Program) (t:TypeId) (w:World) (b r:Nat) (M:Int→Option Value) (c:Nat) (left:Int→Bool) (cnt:Nat):Prop :=
 ∃ D lf n,w.ranges P t RV b r n D lf cnt∧Maps.size D=c∧(∀ x,(KL x).wf=true→Maps.has D (KL x)=(M x).isSome∧∀ v,M x=some v→∀ z,D.atKey (KL x) z=.held v)∧∀ x,(KL x).wf=true→lf (KL x)=left x
theorem Ri.mp {P:Program} {t:TypeId} {w:World} {b r:Nat} {M:Int→Option Value} {c:Nat} {left:Int→Bool} {cnt:Nat} (h:Ri P t w b r M c left cnt):Mp P t w b M c:=by
 obtain ⟨D,lf,n,h1,h2,h3,_⟩:=h;exact ⟨D,by rw [←h2];exact tight h1.owns,h2,h3⟩
theorem Ri.kept {P:Program} {t:TypeId} {w w':World} {b r:Nat} {M:Int→Option Value} {c:Nat} {left:Int→Bool} {cnt:Nat} {S:Nat→Prop} (h:Ri P t w b r M c left cnt) (ho:Only w w' S) (hb:¬ S b) (hr:¬ S r):Ri P t w' b r M c left cnt:=by
 obtain ⟨D,lf,n,h1,h2,h3,h4⟩:=h;have hlb:=h1.owns.lt;have hlr:=h1.lt;refine ⟨D,lf,n,?_,h2,h3,h4⟩;obtain ⟨es,clock,since,seen,c0,a1,a2,a3,a4,a5,a6⟩:=h1;exact ⟨es,clock,since,seen,c0,by rw [ho.block b hlb hb];exact a1,a2,a3,a4,by rw [ho.block r hlr hr];exact a5,a6⟩
theorem Ri.ne {P:Program} {t:TypeId} {w:World} {b r:Nat} {M:Int→Option Value} {c:Nat} {left:Int→Bool} {cnt:Nat} (h:Ri P t w b r M c left cnt):r≠b∧r<w.heap.size:=by
 obtain ⟨D,lf,n,h1,_⟩:=h;exact ⟨h1.ne,h1.lt⟩
section
variable {P:Program} {w:World} {ops:Array Oper} {rest:List Oper} {o:Oper} {a:Act} {Q:Exit→Act→World→Prop}
theorem wpList_rngi (hg:o.guard=none) (m:Operand) (t:TypeId) (hop:o.op=Op.range t m) (k e:TypeId) (hk:P.underlying k=some (.int .i64)) (ht:P.underlying t=some (.map k e)) (b:Nat) (M:Int→Option Value) (c:Nat) (hm:a.eval m=.map (some b)) (h:Mp P k w b M c)
  (hK:∀ w',Ri P k w' b w.heap.size M c (fun x=>(M x).isSome) c→w.grownBy w' none→wpList P ops Q rest (a.put o.dst (.pointer (some ⟨w.heap.size,0,none⟩))) w'):wpList P ops Q (o :: rest) a w:=by
 obtain ⟨D,h1,h2,h3⟩:=h;refine wpList_range_own w hg m t hop k e (int_keyed hk) ht RV b c D hm h1 ?_;intro w' h4 h5 _;exact hK w' ⟨D,_,c,by rw [←h2];rw [←h2] at h4;exact h4,h2,h3,fun x hx=>(h3 x hx).1⟩ h5
theorem wpList_nxti (hg:o.guard=none) (it:Operand) (hop:o.op=Op.next it false) (k:TypeId) (hk:P.underlying k=some (.int .i64)) (b r:Nat) (M:Int→Option Value) (c:Nat) (left:Int→Bool) (cnt:Nat) (hit:a.eval it=.pointer (some ⟨r,0,none⟩)) (h:Ri P k w b r M c left cnt)
  (hDone:(∀ x,(KL x).wf=true→left x=false)→wpList P ops Q rest (a.put o.dst (.tuple #[.bool false])) w)
  (hMore:∀ (x:Int) (v:Value) (w':World) (cnt':Nat),cnt'<cnt→(KL x).wf=true→left x=true→M x=some v→Ri P k w' b r M c (fun z=>left z && !(z == x)) cnt'→w.grownBy w' (some r)→(Instr.entry (.pointer (some ⟨r,0,none⟩))).run P w'=.ok (.tuple #[.int .i64 x,v]) w' →
   wpList P ops Q rest (a.put o.dst (.tuple #[.bool true,.int .i64 x,v])) w'):wpList P ops Q (o :: rest) a w:=by
 obtain ⟨D,lf,n,h1,h2,h3,h4⟩:=h;refine wpList_next_ranges w hg it hop k (int_keyed hk) RV (Value.int .i64) (fun v:Value=>v) (fun key kl hkey=>by obtain ⟨x,rfl,_⟩:=Maps.keyOf_int_inv hk hkey;exact ⟨x,rfl⟩) (fun v _ _=>⟨v,rfl⟩) b r n D lf cnt hit h1 ?_ ?_
 ·intro _ hl
  exact hDone (fun x hx=>by rw [←h4 x hx];exact hl _)
 ·intro x v kl y w' cnt' hkey hl hv hat h5 hlt h6 _ h7
  obtain ⟨x',ex,rfl,hwx⟩:=Maps.keyOf_int_inv hk hkey
  cases ex
  unfold RV at hv
  cases hv
  have hhas:=Maps.has_true_of_atKey hat;obtain ⟨g1,g2⟩:=h3 x hwx;rw [hhas] at g1;obtain ⟨v0,hv0⟩:=Option.isSome_iff_exists.1 g1.symm
  have:v=v0:=by
   have:=g2 v0 hv0 (.held v)
   rw [hat] at this
   cases this;rfl
  subst this;refine hMore x v w' cnt' hlt hwx (by rw [←h4 x hwx];exact hl) hv0 ⟨D,_,n,h5,h2,h3,fun z hz=>?_⟩ h6 h7
  rw [h4 z hz];congr 1
  by_cases e:z=x
  ·subst e;simp [Lit.sameKey]
  ·have ne:KL z≠KL x:=by intro q;apply e;injection q
   rw [Maps.sameKey_ne ne];simp [e]
end
end Go.Proofs.YthdengocipfgiaaGreat.W
namespace Go.Proofs.YthdengocipfgiaaGreat.W
open Go.RowKit
def sumTo (F:Nat→Nat):Nat→Nat
 | 0=>0
 | n+1=>sumTo F n+F n
def tot (F:Nat→Nat):Nat:=sumTo F 240
def bins (F:Nat→Nat):List Value:=(List.range 240).map (fun j=>Value.int .i64 (F j:Int))
theorem bins_len (F:Nat→Nat):(bins F).length=240:=by simp [bins]
theorem bins_at (F:Nat→Nat) {j:Nat} (h:j<240):(bins F)[j]?=some (.int .i64 (F j:Int)):=by
 unfold bins;rw [List.getElem?_map,List.getElem?_range h];rfl
theorem bins_ext {F G:Nat→Nat} (h:∀ j,j<240→F j=G j):bins F=bins G:=by
 apply List.ext_getElem?
 intro j
 rcases Nat.lt_or_ge j 240 with q | q
 ·rw [bins_at _ q,bins_at _ q,h j q]
 ·rw [List.getElem?_eq_none (by rw [bins_len];exact q),List.getElem?_eq_none (by rw [bins_len];exact q)]
theorem bins_set (F G:Nat→Nat) {j:Nat} (h:j<240) (x:Int) (hx:x=(G j:Int)) (ho:∀ k,k<240→k≠j→G k=F k):(bins F).set j (.int .i64 x)=bins G:=by
 apply List.ext_getElem?
 intro k
 rcases Nat.lt_or_ge k 240 with q | q
 ·rw [List.getElem?_set,bins_len,bins_at G q]
  by_cases e:j=k
  ·subst e;simp [h,hx]
  ·rw [if_neg e,bins_at F q,ho k q (fun h=>e h.symm)]
 ·rw [List.getElem?_eq_none (by rw [List.length_set,bins_len];exact q),List.getElem?_eq_none (by rw [bins_len];exact q)]
theorem bins_zero:bins (fun _=>0)=List.replicate 240 (.int .i64 0):=by
 apply List.ext_getElem?
 intro j
 rcases Nat.lt_or_ge j 240 with q | q
 ·rw [bins_at _ q,List.getElem?_replicate,if_pos q];rfl
 ·rw [List.getElem?_eq_none (by rw [bins_len];exact q),List.getElem?_eq_none (by rw [List.length_replicate];exact q)]
theorem sumTo_ext {F G:Nat→Nat}:∀ n,(∀ j,j<n→F j=G j)→sumTo F n=sumTo G n
 | 0,_=>rfl
 | n+1,h=>by simp only [sumTo];rw [sumTo_ext n (fun j hj=>h j (by omega)),h n (by omega)]
theorem sumTo_mono (F:Nat→Nat) {m n:Nat} (h:m≤n):sumTo F m≤sumTo F n:=by
 induction n with
 | zero =>
      obtain rfl:m=0:=by omega
      exact Nat.le_refl _
 | succ n ih =>
  rcases Nat.lt_or_ge m (n+1) with q | q
  ·have:=ih (by omega);simp only [sumTo];omega
  ·obtain rfl:m=n+1:=by omega
   exact Nat.le_refl _
theorem sumTo_zero:∀ n,sumTo (fun _=>0) n=0
 | 0=>rfl
 | n+1=>by simp only [sumTo,sumTo_zero n]
theorem sumTo_half (F:Nat→Nat):∀ n,2*sumTo (fun j=>F j / 2) n≤sumTo F n
 | 0=>by simp [sumTo]
 | n+1=>by have:=sumTo_half F n;simp only [sumTo];omega
theorem le_sumTo (F:Nat→Nat) {j n:Nat} (h:j<n):F j≤sumTo F n:=by
 have:=sumTo_mono F (show j+1≤n by omega)
 simp only [sumTo] at this;omega
theorem sumTo_sq (F:Nat→Nat):∀ n,sumTo (fun j=>F j*F j) n≤sumTo F n*sumTo F n
 | 0=>by simp [sumTo]
 | n+1=>by
  have:=sumTo_sq F n
  simp only [sumTo];rw [Nat.add_mul,Nat.mul_add,Nat.mul_add];generalize F n*F n=a at *;generalize sumTo F n*sumTo F n=b at *;omega
def aF (F:Nat→Nat) (x:Int):Nat→Nat:=fun j=>F j+if (j:Int)=x then 1 else 0
def aO (o:Nat) (x:Int):Nat:=o+if 240≤x then 1 else 0
theorem sumTo_aF (F:Nat→Nat) (x:Int):∀ n,sumTo (aF F x) n=sumTo F n+if 0≤x∧x<n then 1 else 0
 | 0=>by simp only [sumTo];rw [if_neg (by omega)]
 | n+1=>by
  simp only [sumTo,sumTo_aF F x n,aF]
  split <;> split <;> split <;> omega
theorem tot_aF (F:Nat→Nat) (x:Int):tot (aF F x)=tot F+if 0≤x∧x<240 then 1 else 0:=sumTo_aF F x 240
theorem tot_in {F:Nat→Nat} {x:Int} (h0:0≤x) (h1:x<240):tot (aF F x)=tot F+1:=by rw [tot_aF,if_pos ⟨h0,h1⟩]
theorem tot_out {F:Nat→Nat} {x:Int} (h:x<0∨240≤x):tot (aF F x)=tot F:=by rw [tot_aF,if_neg (by omega),Nat.add_zero]
def cnt (xs:List Int):Nat→Nat:=fun j=>xs.count (j:Int)
def cntO (xs:List Int):Nat:=xs.countP (fun x=>decide (240≤x))
def okC (F:Nat→Nat) (P j:Nat):Prop:=0<sumTo F (j+1)∧P*tot F≤sumTo F (j+1)*100
instance (F:Nat→Nat) (P j:Nat):Decidable (okC F P j):=by unfold okC;exact inferInstance
def cutN (F:Nat→Nat) (P:Nat):Nat:=((List.range 240).find? (fun j=>decide (okC F P j))).getD 0
theorem cutN_is {F:Nat→Nat} {P c:Nat} (h1:okC F P c) (h2:c<240) (h3:∀ j,j<c→¬ okC F P j):cutN F P=c:=by
 unfold cutN;rw [(List.find?_range_eq_some (n:=240) (i:=c)).2 ⟨by simpa using h1,by simpa using h2,fun j hj=>by simpa using h3 j hj⟩];rfl
theorem cutN_none {F:Nat→Nat} {P:Nat} (h:∀ j,j<240→¬ okC F P j):cutN F P=0:=by
 unfold cutN;rw [List.find?_range_eq_none.2 (fun j hj=>by simpa using h j hj)];rfl
theorem okC_last {F:Nat→Nat} {P:Nat} (h:0<tot F) (hP:P≤100):okC F P 239:=by
 refine ⟨h,?_⟩;show P*tot F≤tot F*100;rw [Nat.mul_comm];exact Nat.mul_le_mul_left _ hP
theorem cutN_ok {F:Nat→Nat} {P:Nat} (h:0<tot F) (hP:P≤100):okC F P (cutN F P)∧cutN F P<240∧∀ j,j<cutN F P→¬ okC F P j:=by
 cases hq:(List.range 240).find? (fun j=>decide (okC F P j)) with
 | none =>
  have:=(List.find?_range_eq_none.1 hq) 239 (by omega)
  simp [okC_last h hP] at this
 | some c =>
  have hc:cutN F P=c:=by unfold cutN;rw [hq];rfl
  obtain ⟨a,b,d⟩:=(List.find?_range_eq_some (n:=240) (i:=c)).1 hq;rw [hc];exact ⟨by simpa using a,by simpa using b,fun j hj=>by simpa using d j hj⟩
def clampP (p:Int):Nat:=(min (max p 0) 100).toNat
theorem clampP_le (p:Int):clampP p≤100:=by unfold clampP;omega
theorem clampP_int (p:Int):((clampP p:Nat):Int)=min (max p 0) 100:=by unfold clampP;omega
def spreadB (F:Nat→Nat):Bool:=decide (0<tot F∧5*tot F*tot F≤240*sumTo (fun j=>F j*F j) 240)
end Go.Proofs.YthdengocipfgiaaGreat.W
namespace Go.Proofs.YthdengocipfgiaaGreat.W
def last8 (xs:List Int):List Int:=xs.drop (xs.length-8)
theorem last8_len (xs:List Int):(last8 xs).length=min xs.length 8:=by simp [last8];omega
theorem last8_small {xs:List Int} (h:xs.length≤8):last8 xs=xs:=by simp [last8,show xs.length-8=0 by omega]
theorem last8_push {ys:List Int} (h:ys.length=8) (x:Int):last8 (ys ++ [x])=ys.drop 1 ++ [x]:=by
 simp only [last8,List.length_append,h,List.length_cons,List.length_nil];rw [List.drop_append];simp [h]
theorem last8_room {ys:List Int} (h:ys.length<8) (x:Int):last8 (ys ++ [x])=ys ++ [x]:=last8_small (by simp;omega)
structure Ev where
 k:Int
 n:Int
 l:Int
 s:Int
 r:Int
 a:Int
 m:Int
 c:Int
 v:Int
 p:Int
def nums (e:Ev):List Int:=if e.k=0 then [] else if e.k=1 then [e.n,e.l,e.s,e.r] else if e.k=2 then [e.n,e.a,e.m,e.c,e.v,e.p] else if e.k=3 then [e.n,e.s] else [e.n]
def cntE (k:Int):Nat:=if k=0 then 0 else if k=1 then 4 else if k=2 then 6 else if k=3 then 2 else 1
def mk (k:Int) (x:Nat→Int):Ev :=
 if k=0 then ⟨0,0,0,0,0,0,0,0,0,0⟩ else if k=1 then ⟨k,x 0,x 1,x 2,x 3,0,0,0,0,0⟩ else if k=2 then ⟨k,x 0,0,0,0,x 1,x 2,x 3,x 4,x 5⟩
 else if k=3 then ⟨k,x 0,0,x 1,0,0,0,0,0,0⟩ else ⟨k,x 0,0,0,0,0,0,0,0,0⟩
def nth (xs:List Int) (i:Nat):Int:=xs.getD i 0
def right (e:Ev):Prop:=0≤e.k∧e.k≤9∧(∀ x ∈ nums e,0≤x∧x≤2147483647)∧mk e.k (nth (nums e))=e
def zero:Ev:=⟨0,0,0,0,0,0,0,0,0,0⟩
theorem nums_len (e:Ev):(nums e).length=cntE e.k:=by
 unfold nums cntE
 by_cases h0:e.k=0
 ·simp [h0]
 ·by_cases h1:e.k=1
  ·simp [h1]
  ·by_cases h2:e.k=2
   ·simp [h2]
   ·by_cases h3:e.k=3
    ·simp [h3]
    ·simp [h0,h1,h2,h3]
theorem cnt_le (k:Int):cntE k≤6:=by
 unfold cntE;split <;> (try omega);split <;> (try omega);split <;> (try omega);split <;> omega
theorem mk_k (k:Int) (x:Nat→Int):(mk k x).k=k:=by
 unfold mk
 by_cases h0:k=0
 ·simp [h0]
 ·by_cases h1:k=1
  ·simp [h1]
  ·by_cases h2:k=2
   ·simp [h2]
   ·by_cases h3:k=3
    ·simp [h3]
    ·simp [h0,h1,h2,h3]
end Go.Proofs.YthdengocipfgiaaGreat.W
