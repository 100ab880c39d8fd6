import Derived.Test.YthdengocipfgiaaGreatCaA
import Derived.BigRegion
import Derived.Test.YthdengocipfgiaaGreatRows
import Derived.Deep.LoopGhost
/- A part of what core's laws stand on. -/
set_option linter.unusedVariables false
set_option linter.unusedSimpArgs false
set_option maxRecDepth 100000
set_option maxHeartbeats 3200000
namespace Go.Proofs.YthdengocipfgiaaGreat.W
open Go.RowKit
theorem wpList_box_row {P:Program} {w:World} {ops:Array Oper} {rest:List Oper} {o:Oper} {a:Act} {Q:Exit→Act→World→Prop} (hgd:o.guard=none) (t:TypeId) (x:Operand) (ho:o.op=.box t x) (cs:Array Value) (hx:a.eval x=.agg cs)
  (h:wpList P ops Q rest (a.put o.dst (.pointer (some ⟨w.heap.size,0,none⟩))) (w.alloc (.cells cs t))):wpList P ops Q (o :: rest) a w:=by
 refine wpList_plain hgd fun K hK=>?_
 have hrun:(Instr.box t (.agg cs)).run P w=.ok (.pointer (some ⟨w.heap.size,0,none⟩)) (w.alloc (.cells cs t)):=by
  simp [Instr.box,newVar,newRow,Value.cells]
 unfold Oper.wp execOp;simp only [ho,hx,hrun,Sem.run_bind,Sem.run_pure,Result.andThen];exact hK _ _ h
theorem wpList_build_none {P:Program} {w:World} {ops:Array Oper} {rest:List Oper} {o:Oper} {a:Act} {Q:Exit→Act→World→Prop} (hgd:o.guard=none) (t:TypeId) (ho:o.op=.build t #[]) (cs:Array Value) (hb:P.built t []=some cs)
  (h:wpList P ops Q rest (a.put o.dst (.agg cs)) w):wpList P ops Q (o :: rest) a w:=by
 refine wpList_plain hgd fun K hK=>?_;have hrun:=run_build (P:=P) w t #[] cs hb;unfold Oper.wp execOp;simp only [ho,List.map_toArray,List.map_nil,hrun,Sem.run_bind,Sem.run_pure,Result.andThen];exact hK _ _ h
theorem wpList_index_row {P:Program} {ops:Array Oper} {rest:List Oper} {o:Oper} {a:Act} {w:World} {Q:Exit→Act→World→Prop} (hgd:o.guard=none) (ty:TypeId) (x ix:Operand) (ho:o.op=.index ty x ix)
  (n:Nat) (e:TypeId) (hu:P.underlying ty=some (.array n e)) (d:TypeDesc) (hue:P.underlying e=some d) (hd:d.isRow=true) (z:Nat) (hsz:(P.info? e).map (·.size)=some z)
  (cs:List Value) (hx:a.eval x=.agg cs.toArray) (k:IntKind) (i:Nat) (hi:a.eval ix=.int k (i:Int)) (hin:i<n) (vs:Array Value) (hv:cs.toArray.extract (i*z) (i*z+z)=vs)
  (h:wpList P ops Q rest (a.put o.dst (.agg vs)) w):wpList P ops Q (o :: rest) a w:=by
 refine wpList_plain hgd fun K hK=>?_
 cases hq:P.info? e with
 | none=>simp [hq] at hsz
 | some ie =>
  have hs:ie.size=z:=by simpa [hq] using hsz
  have hagg:(isAgg e).run P w=.ok true w:=by
   unfold isAgg;rw [Sem.run_bind,run_underlying hue w]
   cases d <;> simp_all
  have hrun:(Instr.index ty (.agg cs.toArray) (.int k (i:Int))).run P w=.ok (.agg vs) w:=by
   rw [←hv];simp [Instr.index,asIntOf,run_underlying hu,sizeOf,typeInfo,hq,hs,part,hagg];omega
  unfold Oper.wp execOp;simp only [ho,hx,hi,hrun,Sem.run_bind,Sem.run_pure,Result.andThen];exact hK _ _ h
theorem dec_f {p:Prop} [Decidable p] (h:¬ p):decide p=false:=decide_eq_false h
theorem row_kept {w w':World} {q b:Nat} {o:Obj} (h:w.heap[q]?=some o) (hg:w.grownBy w' (some b)) (hne:q≠b):w'.heap[q]?=some o:=by
 rw [hg.block q (lt_of_row h) (by simpa using hne)];exact h
def setQ:List Value→Nat→List Value→List Value
 | cur,_,[]=>cur
 | cur,o,v :: r=>setQ (cur.set o v) (o+1) r
theorem row_setCells {g:Nat} {t:TypeId}:∀ (vs:List Value) (o:Nat) {w:World} {cur:List Value},w.heap[g]?=some (.cells cur.toArray t (0,0))→(w.setCells g o vs).heap[g]?=some (.cells (setQ cur o vs).toArray t (0,0))
 | [],_,_,_,h=>h
 | v :: r,o,w,cur,h=>by
  rw [World.setCells,setQ];exact row_setCells r (o+1) (set_rowL h o v)
theorem grown_setCells {g:Nat}:∀ (vs:List Value) (o:Nat) {w w0:World},w0.grownBy w (some g)→w0.grownBy (w.setCells g o vs) (some g)
 | [],_,_,_,h=>h
 | v :: r,o,w,w0,h=>by
  rw [World.setCells];exact grown_setCells r (o+1) (grown_put h o v)
theorem wpList_store_part {P:Program} {w:World} {ops:Array Oper} {rest:List Oper} {o:Oper} {a:Act} {Q:Exit→Act→World→Prop} (hgd:o.guard=none) (ty:TypeId) (x y:Operand) (ho:o.op=.store ty x y)
  (b off:Nat) (vs:List Value) (hx:a.eval x=.pointer (some ⟨b,off,none⟩)) (hy:a.eval y=.agg vs.toArray) (cur:List Value) (t:TypeId) (hg:w.heap[b]?=some (.cells cur.toArray t (0,0))) (hfit:off+vs.length≤cur.length)
  (hi:(P.info? ty).map (·.size)=some vs.length) (h1:∀ v ∈ vs,v.oneCell'=true)
  (h:∀ w',Hid (w'.heap[b]?=some (.cells (setQ cur off vs).toArray t (0,0)))→w.grownBy w' (some b)→wpList P ops Q rest (a.put o.dst undef) w'):wpList P ops Q (o :: rest) a w:=by
 refine wpList_store_mid hgd ty x y ho b off vs.toArray hx hy ?_ (by simpa using hi) (all_oneCell_toArray h1) ?_
 ·intro j hj
  have hj':j<vs.length:=by simpa using hj
  exact ⟨by rw [cellL hg (off+j) _ (List.getElem?_eq_getElem (by omega))];rfl,frozen_of_row w b _ _ _ hg⟩
 ·exact h _ (show _=_ from row_setCells vs off hg) (grown_setCells vs off (World.grownBy.refl _ _))
theorem wpList_store_boolin {P:Program} {w:World} {ops:Array Oper} {rest:List Oper} {o:Oper} {a:Act} {Q:Exit→Act→World→Prop} (hgd:o.guard=none) (ty:TypeId) (p y:Operand) (ho:o.op=.store ty p y) (hsz:(P.info? ty).map (·.size)=some 1)
  (b j:Nat) (hp:a.eval p=.pointer (some ⟨b,j,none⟩)) (x:Bool) (hy:a.eval y=.bool x) (cur:List Value) (t:TypeId) (hg:w.heap[b]?=some (.cells cur.toArray t (0,0))) (hj:j<cur.length)
  (h:∀ w',Hid (w'.heap[b]?=some (.cells (cur.set j (.bool x)).toArray t (0,0)))→w.grownBy w' (some b)→wpList P ops Q rest (a.put o.dst undef) w'):wpList P ops Q (o :: rest) a w:=by
 refine wpList_plain hgd fun K hK=>?_
 cases hq:P.info? ty with
 | none=>simp [hq] at hsz
 | some i =>
  have hs:i.size=1:=by simpa [hq] using hsz
  have h1:=run_storeCells_cells (P:=P) b j [.bool x] 0 w (fun i hi=>by
   obtain rfl:i=0:=by simp at hi;omega
   rw [show j+0+0=j from rfl,cellL hg j _ (List.getElem?_eq_getElem hj)];rfl) (fun i hi=>by
   obtain rfl:i=0:=by simp at hi;omega
   exact frozen_of_row w b _ _ _ hg) (by simp [Value.oneCell'])
  simp only [World.setCells,Nat.add_zero] at h1
  have hrun:(Instr.storeAt ty (.pointer (some ⟨b,j,none⟩)) (.bool x)).run P w=.ok () (w.setCell ⟨b,j,none⟩ (.bool x)):=by
   simp [Instr.storeAt,Instr.sureAddr,storeVar,sizeOf,typeInfo,hq,hs,Value.cells,h1]
  unfold Oper.wp execOp;simp only [ho,hp,hy,hrun,Sem.run_bind,Sem.run_pure,Result.andThen];refine hK _ _ (h _ (show _=_ from set_rowL hg j _) (grown_set w 0 b j _))
abbrev Ht:=Bool×Nat×Nat
def Hb (H:Int→Option Ht):Prop:=∀ x d s u,H x=some (d,s,u)→0≤x∧x<32∧1≤s∧s≤4096∧u≤s
theorem Hb.zero:Hb (fun _=>none):=fun _ _ _ _ h=>(nomatch h)
theorem Hb.put {H:Int→Option Ht} (h:Hb H) {x:Nat} {d:Bool} {s u:Nat} (hx:x<32) (h1:1≤s) (h2:s≤4096) (h3:u≤s):Hb (updZ H (x:Int) (some (d,s,u))):=by
 intro y d' s' u' q
 by_cases e:y=(x:Int)
 ·subst e;rw [updZ_same] at q;cases q;omega
 ·rw [updZ_ne _ _ e] at q;exact h y d' s' u' q
theorem Hb.gone {H:Int→Option Ht} (h:Hb H) (x:Int):Hb (updZ H x none):=by
 intro y d' s' u' q
 by_cases e:y=x
 ·subst e;rw [updZ_same] at q;cases q
 ·rw [updZ_ne _ _ e] at q;exact h y d' s' u' q
theorem Hb.nat {H:Int→Option Ht} (h:Hb H) {x:Int} {d:Bool} {s u:Nat} (hx:H x=some (d,s,u)):∃ f:Nat,x=(f:Int)∧f<32 :=
 ⟨x.toNat,by have:=h x d s u hx;omega,by have:=h x d s u hx;omega⟩
def isH (x:Int):Bool:=decide (0≤x) && decide (x<32)
theorem isH_iff {x:Int}:isH x=true↔0≤x∧x<32:=by unfold isH;simp
theorem isH_nat {x:Int} (h:isH x=true):∃ a:Nat,x=(a:Int)∧a<32:=⟨x.toNat,by have:=isH_iff.1 h;omega,by have:=isH_iff.1 h;omega⟩
theorem Hb.no {H:Int→Option Ht} (h:Hb H) {x:Int} (hx:isH x=false):H x=none:=by
 cases q:H x with
 | none=>rfl
 | some v =>
  obtain ⟨d,s,u⟩:=v;have:=h x d s u q
  rw [isH_iff.2 (by omega)] at hx;cases hx
def upB (H:Int→Option Ht) (x:Int):Bool:=match H x with | some (d,_,_)=>!d | none=>false
def fr (H:Int→Option Ht) (x:Int):Int:=match H x with | some (_,s,u)=>(s:Int)-(u:Int) | none=>0
def addC (H:Int→Option Ht) (x n:Int):Int:=if isH x=false∨n<1∨4096<n then 1 else if (H x).isSome then 3 else 0
def addH (H:Int→Option Ht) (x n:Int):Int→Option Ht:=if addC H x n=0 then updZ H x (some (false,n.toNat,0)) else H
def drC (H:Int→Option Ht) (x:Int):Int:=match H x with | none=>2 | some (true,_,_)=>3 | some (false,_,_)=>0
def lv (d:Bool) (s u:Nat):Option Ht:=if d=true∧u=0 then none else some (d,s,u)
def drH (H:Int→Option Ht) (x:Int):Int→Option Ht:=match H x with | some (false,s,u)=>updZ H x (lv true s u) | _=>H
def faC (H:Int→Option Ht) (x:Int):Int:=match H x with | none=>2 | some _=>0
def tkB (H:Int→Option Ht) (x m:Int):Bool:=match H x with | some (false,s,u)=>decide (0≤m) && decide (m≤(s:Int)-(u:Int)) | _=>false
def tkH (H:Int→Option Ht) (x m:Int):Int→Option Ht:=match H x with | some (false,s,u)=>if 0≤m∧m≤(s:Int)-(u:Int) then updZ H x (some (false,s,u+m.toNat)) else H | _=>H
def gvB (H:Int→Option Ht) (x m:Int):Bool:=match H x with | some (_,_,u)=>decide (0≤m) && decide (m≤(u:Int)) | none=>false
def gvH (H:Int→Option Ht) (x m:Int):Int→Option Ht:=match H x with | some (d,s,u)=>if 0≤m∧m≤(u:Int) then updZ H x (lv d s (u-m.toNat)) else H | none=>H
def fits (H:Int→Option Ht) (m:Int) (j:Nat):Bool:=upB H (j:Int) && decide (m≤fr H (j:Int))
def fitT (H:Int→Option Ht) (m:Int):Nat→Nat×Bool
 | 0=>(0,false)
 | n+1=>if fits H m n then (if (fitT H m n).2=false∨fr H (n:Int)<fr H ((fitT H m n).1:Int) then (n,true) else fitT H m n) else fitT H m n
theorem fitT_none (H:Int→Option Ht) (m:Int):∀ n,(fitT H m n).2=false→(fitT H m n).1=0∧∀ j,j<n→fits H m j=false
 | 0,_=>⟨rfl,fun j hj=>by omega⟩
 | n+1,h=>by
  unfold fitT at h ⊢
  by_cases q:fits H m n=true
  ·rw [if_pos q] at h
   by_cases e:(fitT H m n).2=false∨fr H (n:Int)<fr H ((fitT H m n).1:Int)
   ·rw [if_pos e] at h;cases h
   ·rw [if_neg e] at h;exact absurd (Or.inl h) e
  ·rw [if_neg q] at h ⊢
   obtain ⟨h1,h2⟩:=fitT_none H m n h;refine ⟨h1,fun j hj=>?_⟩
   by_cases e:j=n
   ·subst e;simpa using q
   ·exact h2 j (by omega)
theorem fitT_some (H:Int→Option Ht) (m:Int):∀ n,(fitT H m n).2=true→(fitT H m n).1<n∧fits H m (fitT H m n).1=true∧∀ j,j<n→fits H m j=true→fr H ((fitT H m n).1:Int)≤fr H (j:Int)∧(fr H ((fitT H m n).1:Int)=fr H (j:Int)→(fitT H m n).1≤j)
 | 0,h=>by cases h
 | n+1,h=>by
  unfold fitT at h ⊢
  by_cases q:fits H m n=true
  ·rw [if_pos q] at h ⊢
   by_cases e:(fitT H m n).2=false∨fr H (n:Int)<fr H ((fitT H m n).1:Int)
   ·rw [if_pos e]
    refine ⟨by simp,q,fun j hj hf=>?_⟩
    show fr H (n:Int)≤fr H (j:Int)∧(fr H (n:Int)=fr H (j:Int)→n≤j)
    by_cases ej:j=n
    ·subst ej;exact ⟨Int.le_refl _,fun _=>Nat.le_refl _⟩
    ·cases h2:(fitT H m n).2 with
     | false=>rw [(fitT_none H m n h2).2 j (by omega)] at hf;cases hf
     | true =>
      have:=(fitT_some H m n h2).2.2 j (by omega) hf
      rcases e with e | e
      ·rw [h2] at e;cases e
      ·constructor
       ·omega
       ·intro;omega
   ·rw [if_neg e] at h ⊢
    obtain ⟨h1,h2,h3⟩:=fitT_some H m n h;refine ⟨by omega,h2,fun j hj hf=>?_⟩
    by_cases ej:j=n
    ·subst ej
     have:=fun q=>e (Or.inr q)
     exact ⟨by omega,fun _=>by omega⟩
    ·exact h3 j (by omega) hf
  ·rw [if_neg q] at h ⊢
   obtain ⟨h1,h2,h3⟩:=fitT_some H m n h;refine ⟨by omega,h2,fun j hj hf=>?_⟩
   by_cases ej:j=n
   ·subst ej;exact absurd hf q
   ·exact h3 j (by omega) hf
def fit (H:Int→Option Ht) (m:Int):Nat×Bool:=if m<0 then (0,false) else fitT H m 32
def hcl (H:Int→Option Ht) (j:Nat):Value :=
 if j % 4=0 then .bool (H ((j / 4:Nat):Int)).isSome
 else if j % 4=1 then .bool ((H ((j / 4:Nat):Int)).getD (false,0,0)).1
 else if j % 4=2 then .int .i64 ((((H ((j / 4:Nat):Int)).getD (false,0,0)).2.1:Nat):Int)
 else .int .i64 ((((H ((j / 4:Nat):Int)).getD (false,0,0)).2.2:Nat):Int)
theorem hcl_0 (H:Int→Option Ht) (f:Nat):hcl H (f*4)=.bool (H (f:Int)).isSome:=by
 unfold hcl;rw [if_pos (by omega),show f*4 / 4=f by omega]
theorem hcl_1 (H:Int→Option Ht) (f:Nat):hcl H (f*4+1)=.bool ((H (f:Int)).getD (false,0,0)).1:=by
 unfold hcl;rw [if_neg (by omega),if_pos (by omega),show (f*4+1) / 4=f by omega]
theorem hcl_2 (H:Int→Option Ht) (f:Nat):hcl H (f*4+2)=.int .i64 ((((H (f:Int)).getD (false,0,0)).2.1:Nat):Int):=by
 unfold hcl;rw [if_neg (by omega),if_neg (by omega),if_pos (by omega),show (f*4+2) / 4=f by omega]
theorem hcl_3 (H:Int→Option Ht) (f:Nat):hcl H (f*4+3)=.int .i64 ((((H (f:Int)).getD (false,0,0)).2.2:Nat):Int):=by
 unfold hcl;rw [if_neg (by omega),if_neg (by omega),if_neg (by omega),show (f*4+3) / 4=f by omega]
def hro (H:Int→Option Ht):List Value:=(List.range 128).map (hcl H)
theorem hro_len (H:Int→Option Ht):(hro H).length=128:=by simp [hro]
theorem hro_at (H:Int→Option Ht) {j:Nat} (h:j<128):(hro H)[j]?=some (hcl H j):=by
 unfold hro;rw [List.getElem?_map,List.getElem?_range h];rfl
theorem hro_zero:hro (fun _=>none)=(List.replicate 32 [Value.bool false,.bool false,.int .i64 0,.int .i64 0]).flatten:=by kernel_rfl
theorem hro_set (H':Int→Option Ht):∀ (vs:List Value) (k:Nat) (cur:List Value),cur.length=128→k+vs.length≤128 →
  (∀ j,j<128→(k≤j∧j<k+vs.length→vs[j-k]?=some (hcl H' j))∧(¬ (k≤j∧j<k+vs.length)→cur[j]?=some (hcl H' j)))→setQ cur k vs=hro H'
 | [],k,cur,hl,_,h=>by
  rw [setQ]
  apply List.ext_getElem?
  intro j
  by_cases hj:j<128
  ·rw [hro_at H' hj];exact (h j hj).2 (by simp)
  ·rw [List.getElem?_eq_none (by omega),List.getElem?_eq_none (by rw [hro_len];omega)]
 | v :: r,k,cur,hl,hk,h=>by
  rw [setQ];refine hro_set H' r (k+1) (cur.set k v) (by simpa using hl) (by simp at hk;omega) ?_
  intro j hj;obtain ⟨h1,h2⟩:=h j hj;simp only [List.length_cons] at h1 h2 hk
  constructor
  ·intro q
   have:=h1 (by omega)
   rw [show j-k=(j-(k+1))+1 by omega] at this
   simpa using this
  ·intro q
   by_cases e:j=k
   ·subst e
    rw [List.getElem?_set_self (by omega)]
    have:=h1 (by omega)
    simpa using this
   ·rw [List.getElem?_set_ne (by omega)]
    exact h2 (by omega)
theorem hcl_far (H H':Int→Option Ht) {j:Nat} (h:H' ((j / 4:Nat):Int)=H ((j / 4:Nat):Int)):hcl H' j=hcl H j:=by
 unfold hcl;rw [h]
def hts (o:Option Ht):List Value:=[.bool o.isSome,.bool (o.getD (false,0,0)).1,.int .i64 (((o.getD (false,0,0)).2.1:Nat):Int),.int .i64 (((o.getD (false,0,0)).2.2:Nat):Int)]
theorem hro_host (H:Int→Option Ht) {f:Nat} (o:Option Ht) (hf:f<32):setQ (hro H) (f*4) (hts o)=hro (updZ H (f:Int) o):=by
 refine hro_set _ _ _ _ (hro_len H) (by simp [hts];omega) ?_
 intro j hj
 constructor
 ·intro q
  rcases (show j=f*4∨j=f*4+1∨j=f*4+2∨j=f*4+3 by simp [hts] at q;omega) with rfl | rfl | rfl | rfl
  ·rw [Nat.sub_self,hcl_0,updZ_same];rfl
  ·rw [Nat.add_sub_cancel_left,hcl_1,updZ_same];rfl
  ·rw [Nat.add_sub_cancel_left,hcl_2,updZ_same];rfl
  ·rw [Nat.add_sub_cancel_left,hcl_3,updZ_same];rfl
 ·intro q
  rw [hro_at H hj,hcl_far H _ (updZ_ne _ _ (by simp [hts] at q;omega))]
theorem hro_used (H:Int→Option Ht) {f:Nat} {d:Bool} {s u:Nat} (u':Nat) (hf:f<32) (h:H (f:Int)=some (d,s,u)):(hro H).set (f*4+3) (.int .i64 (u':Int))=hro (updZ H (f:Int) (some (d,s,u'))):=by
 show setQ (hro H) (f*4+3) [.int .i64 (u':Int)]=_;refine hro_set _ [.int .i64 (u':Int)] _ _ (hro_len H) (by simp;omega) ?_
 intro j hj
 constructor
 ·intro q
  obtain rfl:j=f*4+3:=by simp at q;omega
  rw [Nat.sub_self,hcl_3,updZ_same];rfl
 ·intro q
  rw [hro_at H hj]
  by_cases e:j / 4=f
  ·rcases (show j=f*4∨j=f*4+1∨j=f*4+2 by simp at q;omega) with rfl | rfl | rfl
   ·rw [hcl_0,hcl_0,updZ_same,h];rfl
   ·rw [hcl_1,hcl_1,updZ_same,h];rfl
   ·rw [hcl_2,hcl_2,updZ_same,h];rfl
  ·rw [hcl_far H _ (updZ_ne _ _ (by omega))]
theorem hro_drain (H:Int→Option Ht) {f:Nat} {d:Bool} {s u:Nat} (d':Bool) (hf:f<32) (h:H (f:Int)=some (d,s,u)):(hro H).set (f*4+1) (.bool d')=hro (updZ H (f:Int) (some (d',s,u))):=by
 show setQ (hro H) (f*4+1) [.bool d']=_;refine hro_set _ [.bool d'] _ _ (hro_len H) (by simp;omega) ?_
 intro j hj
 constructor
 ·intro q
  obtain rfl:j=f*4+1:=by simp at q;omega
  rw [Nat.sub_self,hcl_1,updZ_same];rfl
 ·intro q
  rw [hro_at H hj]
  by_cases e:j / 4=f
  ·rcases (show j=f*4∨j=f*4+2∨j=f*4+3 by simp at q;omega) with rfl | rfl | rfl
   ·rw [hcl_0,hcl_0,updZ_same,h];rfl
   ·rw [hcl_2,hcl_2,updZ_same,h];rfl
   ·rw [hcl_3,hcl_3,updZ_same,h];rfl
  ·rw [hcl_far H _ (updZ_ne _ _ (by omega))]
inductive Ph where
 | boot
 | bound
 | warm
 | busy
 | dead
def Ph.st:Ph→Int
 | .boot=>0
 | .bound=>0
 | .warm=>1
 | .busy=>2
 | .dead=>3
def Ph.bd:Ph→Bool
 | .bound=>true
 | _=>false
def Ph.runs:Ph→Bool
 | .bound=>true
 | .busy=>true
 | _=>false
def Ph.idle:Ph→Bool
 | .warm=>true
 | _=>false
structure Bo where
 id:Int
 fn:Int
 ho:Int
 me:Int
 q:Ph
 p:Bool
 t:Int
def nx (k:Nat) (c:Bo) (now:Int):Bo×Bool :=
 match k,c.q with
 | 0,.warm=>({ c with q:=.busy,t:=now },true)
 | 0,.boot=>({ c with q:=.bound },true)
 | 1,.boot=>({ c with q:=.warm,t:=now },true)
 | 1,.bound=>({ c with q:=.busy,t:=now },true)
 | 2,.busy=>({ c with q:=.warm,t:=now },true)
 | 3,.dead=>(c,false)
 | 3,_=>({ c with q:=.dead,p:=false,t:=now },true)
 | _,_=>(c,false)
abbrev bcs (i f h m s:Int) (bd p:Bool) (t:Int):List Value:=[.int .i64 i,.int .i64 f,.int .i64 h,.int .i64 m,.int .i64 s,.bool bd,.bool p,.int .i64 t]
def brow (c:Bo):List Value:=bcs c.id c.fn c.ho c.me c.q.st c.q.bd c.p c.t
def Br (w:World) (b:Nat) (i f h m s:Int) (bd p:Bool) (t:Int):Prop:=w.heap[b]?=some (.cells (bcs i f h m s bd p t).toArray 43 (0,0))
def Bx (w:World) (b:Nat) (c:Bo):Prop:=w.heap[b]?=some (.cells (brow c).toArray 43 (0,0))
theorem Bx.lt {w:World} {b:Nat} {c:Bo} (h:Bx w b c):b<w.heap.size:=lt_of_row h
theorem Bx.keep {w w':World} {b B:Nat} {c:Bo} (h:Bx w b c) (hb:Below B w w') (hr:b<B):Bx w' b c:=by unfold Bx;rw [hb.block b hr];exact h
theorem Bx.off {w w':World} {b q:Nat} {c:Bo} (h:Bx w b c) (hb:w.grownBy w' (some q)) (hr:b≠q):Bx w' b c:=by unfold Bx;rw [hb.block b h.lt (by simpa using hr)];exact h
theorem Bx.drewN {w:World} {b:Nat} {c:Bo} (h:Bx w b c) (n:Nat):Bx (w.drewN n) b c:=h
theorem bx_turn (b:Nat) (i f h m s:Int) (bd p:Bool) (t s' now:Int) (w:World) (hr:Br w b i f h m s bd p t) :
  Calls Tryz.prog 111 #[.pointer (some ⟨b,0,none⟩),.int .i64 s',.int .i64 now] w fun e w'=>e=.returned (.tuple #[])∧Br w' b i f h m s' bd p now∧w.grownBy w' (some b):=by
 have hg:Hid (w.heap[b]?=some (.cells (bcs i f h m s bd p t).toArray 43 (0,0))):=Lib.hid hr;clear hr
 go_enter Tryz.func111,Tryz.ntmps111
 go_wp2_with (first
  | (with_reducible refine wpList_store_in rfl 41 (.tmp 11) (.tmp 8) rfl (by kernel_rfl) b 4 rfl .i64 s' rfl _ _ hg.out (by simp) ?_;intro w2 HG2 hg2)
  | (with_reducible refine wpList_store_in rfl 2 (.tmp 13) (.tmp 9) rfl (by kernel_rfl) b 7 rfl .i64 now rfl _ _ HG2.out (by simp) ?_;intro w3 HG3 hg3))
 go_end0
 exact ⟨rfl,HG3.out,grown_trans hg2 hg3⟩
theorem bx_new (i f h m t:Int) (w:World) :
  Calls Tryz.prog 116 #[.int .i64 i,.int .i64 f,.int .i64 h,.int .i64 m,.int .i64 t] w fun e w'=>e=.returned (.pointer (some ⟨w.heap.size,0,none⟩))∧Bx w' w.heap.size ⟨i,f,h,m,.boot,false,t⟩∧Below w.heap.size w w':=by
 go_enter Tryz.func116,Tryz.ntmps116
 go_wp2
 go_ret
 exact ⟨rfl,heap_alloc_new _ _,(Below.refl _ _).alloc (Nat.le_refl _) _⟩
theorem bx_runs (b:Nat) (c:Bo) (w:World) (hr:Bx w b c) :
  Calls Tryz.prog 84 #[.pointer (some ⟨b,0,none⟩)] w fun e w'=>e=.returned (.bool c.q.runs)∧w=w':=by
 obtain ⟨i,f,h,m,q,p,t⟩:=c
 cases q <;>
 ·have h4:=cellL hr 4 _ rfl
  have h5:=cellL hr 5 _ rfl;simp only [Ph.st,Ph.bd] at h4 h5;clear hr
  go_enter Tryz.func84,Tryz.ntmps84
  go_wp2
  go_ret
  exact ⟨rfl,rfl⟩
theorem bx_idle (b:Nat) (c:Bo) (w:World) (hr:Bx w b c) :
  Calls Tryz.prog 62 #[.pointer (some ⟨b,0,none⟩)] w fun e w'=>e=.returned (.bool c.q.idle)∧w=w':=by
 obtain ⟨i,f,h,m,q,p,t⟩:=c
 cases q <;>
 ·have h4:=cellL hr 4 _ rfl
  simp only [Ph.st] at h4;clear hr
  go_enter Tryz.func62,Tryz.ntmps62
  go_wp2
  go_ret
  exact ⟨rfl,rfl⟩
theorem bx_call (b:Nat) (c:Bo) (now:Int) (w:World) (hr:Bx w b c) :
  Calls Tryz.prog 68 #[.pointer (some ⟨b,0,none⟩),.int .i64 now] w fun e w'=>e=.returned (.bool (nx 0 c now).2)∧Bx w' b (nx 0 c now).1∧w.grownBy w' (some b):=by
 obtain ⟨i,f,h,m,q,p,t⟩:=c;have hg:=Lib.hid hr;have h4:=cellL hr 4 _ rfl;have h5:=cellL hr 5 _ rfl;simp only [] at h4 h5;clear hr
 cases q with
 | boot =>
  simp only [Ph.st,Ph.bd] at h4 h5;have hg1:Hid (w.heap[b]?=some (.cells (bcs i f h m 0 false p t).toArray 43 (0,0))):=Lib.hid hg.out
  go_enter Tryz.func68,Tryz.ntmps68
  go_wp2_with (with_reducible refine wpList_store_boolin rfl 4 (.tmp 29) (.const (.bool true)) rfl (by kernel_rfl) b 5 rfl true rfl _ _ hg1.out (by simp) ?_;intro w2 HG2 hg2)
  go_ret
  exact ⟨rfl,HG2.out,hg2⟩
 | bound =>
  simp only [Ph.st,Ph.bd] at h4 h5
  go_enter Tryz.func68,Tryz.ntmps68
  go_wp2
  go_ret
  exact ⟨rfl,hg.out,World.grownBy.refl _ _⟩
 | warm =>
  simp only [Ph.st,Ph.bd] at h4 h5
  go_enter Tryz.func68,Tryz.ntmps68
  go_wp2_with fail
  refine (bx_turn b i f h m 1 false p t 2 now w hg.out).mono ?_;rintro e w2 ⟨rfl,h2,hg2⟩;have HG2:=Lib.hid h2;clear h4 h5 h2
  go_wp2
  go_ret
  exact ⟨rfl,HG2.out,hg2⟩
 | busy =>
  simp only [Ph.st,Ph.bd] at h4 h5
  go_enter Tryz.func68,Tryz.ntmps68
  go_wp2
  go_ret
  exact ⟨rfl,hg.out,World.grownBy.refl _ _⟩
 | dead =>
  simp only [Ph.st,Ph.bd] at h4 h5
  go_enter Tryz.func68,Tryz.ntmps68
  go_wp2
  go_ret
  exact ⟨rfl,hg.out,World.grownBy.refl _ _⟩
theorem bx_booted (b:Nat) (c:Bo) (now:Int) (w:World) (hr:Bx w b c) :
  Calls Tryz.prog 130 #[.pointer (some ⟨b,0,none⟩),.int .i64 now] w fun e w'=>e=.returned (.bool (nx 1 c now).2)∧Bx w' b (nx 1 c now).1∧w.grownBy w' (some b):=by
 obtain ⟨i,f,h,m,q,p,t⟩:=c;have hg:=Lib.hid hr;have h4:=cellL hr 4 _ rfl;have h5:=cellL hr 5 _ rfl;simp only [] at h4 h5;clear hr
 cases q with
 | boot =>
  simp only [Ph.st,Ph.bd] at h4 h5;have hg1:Hid (w.heap[b]?=some (.cells (bcs i f h m 0 false p t).toArray 43 (0,0))):=Lib.hid hg.out
  go_enter Tryz.func130,Tryz.ntmps130
  go_wp2_with (with_reducible refine wpList_store_boolin rfl 4 (.tmp 17) (.const (.bool false)) rfl (by kernel_rfl) b 5 rfl false rfl _ _ hg1.out (by simp) ?_;intro w2 HG2 hg2)
  refine (bx_turn b i f h m 0 false p t 1 now w2 HG2.out).mono ?_;rintro e w3 ⟨rfl,h3,hg3⟩;have HG3:=Lib.hid h3;clear h4 h5 h3
  go_wp2
  go_ret
  exact ⟨rfl,HG3.out,grown_trans hg2 hg3⟩
 | bound =>
  simp only [Ph.st,Ph.bd] at h4 h5;have hg1:Hid (w.heap[b]?=some (.cells (bcs i f h m 0 true p t).toArray 43 (0,0))):=Lib.hid hg.out
  go_enter Tryz.func130,Tryz.ntmps130
  go_wp2_with (with_reducible refine wpList_store_boolin rfl 4 (.tmp 17) (.const (.bool false)) rfl (by kernel_rfl) b 5 rfl false rfl _ _ hg1.out (by simp) ?_;intro w2 HG2 hg2)
  refine (bx_turn b i f h m 0 false p t 2 now w2 HG2.out).mono ?_;rintro e w3 ⟨rfl,h3,hg3⟩;have HG3:=Lib.hid h3;clear h4 h5 h3
  go_wp2
  go_ret
  exact ⟨rfl,HG3.out,grown_trans hg2 hg3⟩
 | warm =>
  simp only [Ph.st,Ph.bd] at h4 h5
  go_enter Tryz.func130,Tryz.ntmps130
  go_wp2
  go_ret
  exact ⟨rfl,hg.out,World.grownBy.refl _ _⟩
 | busy =>
  simp only [Ph.st,Ph.bd] at h4 h5
  go_enter Tryz.func130,Tryz.ntmps130
  go_wp2
  go_ret
  exact ⟨rfl,hg.out,World.grownBy.refl _ _⟩
 | dead =>
  simp only [Ph.st,Ph.bd] at h4 h5
  go_enter Tryz.func130,Tryz.ntmps130
  go_wp2
  go_ret
  exact ⟨rfl,hg.out,World.grownBy.refl _ _⟩
theorem bx_done (b:Nat) (c:Bo) (now:Int) (w:World) (hr:Bx w b c) :
  Calls Tryz.prog 133 #[.pointer (some ⟨b,0,none⟩),.int .i64 now] w fun e w'=>e=.returned (.bool (nx 2 c now).2)∧Bx w' b (nx 2 c now).1∧w.grownBy w' (some b):=by
 obtain ⟨i,f,h,m,q,p,t⟩:=c;have hg:=Lib.hid hr;have h4:=cellL hr 4 _ rfl;simp only [] at h4;clear hr
 cases q with
 | busy =>
  simp only [Ph.st] at h4
  go_enter Tryz.func133,Tryz.ntmps133
  go_wp2_with fail
  refine (bx_turn b i f h m 2 false p t 1 now w hg.out).mono ?_;rintro e w2 ⟨rfl,h2,hg2⟩;have HG2:=Lib.hid h2;clear h4 h2
  go_wp2
  go_ret
  exact ⟨rfl,HG2.out,hg2⟩
 | _ =>
  simp only [Ph.st] at h4
  go_enter Tryz.func133,Tryz.ntmps133
  go_wp2
  go_ret
  exact ⟨rfl,hg.out,World.grownBy.refl _ _⟩
theorem bx_kill (b:Nat) (c:Bo) (now:Int) (w:World) (hr:Bx w b c) :
  Calls Tryz.prog 128 #[.pointer (some ⟨b,0,none⟩),.int .i64 now] w fun e w'=>e=.returned (.bool (nx 3 c now).2)∧Bx w' b (nx 3 c now).1∧w.grownBy w' (some b):=by
 obtain ⟨i,f,h,m,q,p,t⟩:=c;have hg:=Lib.hid hr;have h4:=cellL hr 4 _ rfl;simp only [] at h4;clear hr
 cases q with
 | dead =>
  simp only [Ph.st] at h4
  go_enter Tryz.func128,Tryz.ntmps128
  go_wp2
  go_ret
  exact ⟨rfl,hg.out,World.grownBy.refl _ _⟩
 | _ =>
  simp only [Ph.st] at h4;obtain ⟨st,bd,hg1⟩:∃ st bd,Hid (w.heap[b]?=some (.cells (bcs i f h m st bd p t).toArray 43 (0,0))):=⟨_,_,Lib.hid hg.out⟩
  go_enter Tryz.func128,Tryz.ntmps128
  go_wp2_with (first
   | (with_reducible refine wpList_store_boolin rfl 4 (.tmp 13) (.const (.bool false)) rfl (by kernel_rfl) b 5 rfl false rfl _ _ hg1.out (by simp) ?_;intro w2 HG2 hg2)
   | (with_reducible refine wpList_store_boolin rfl 4 (.tmp 15) (.const (.bool false)) rfl (by kernel_rfl) b 6 rfl false rfl _ _ HG2.out (by simp) ?_;intro w3 HG3 hg3))
  refine (bx_turn b i f h m st false false t 3 now w3 HG3.out).mono ?_;rintro e w4 ⟨rfl,h4',hg4⟩;have HG4:=Lib.hid h4';clear h4 h4'
  go_wp2
  go_ret
  exact ⟨rfl,HG4.out,grown_trans (grown_trans hg2 hg3) hg4⟩
structure Ho (w:World) (l:Nat) (H:Int→Option Ht):Prop where
 hb:Hb H
 row:w.heap[l]?=some (.cells (hro H).toArray 97 (0,0))
theorem Ho.lt {w:World} {l:Nat} {H:Int→Option Ht} (h:Ho w l H):l<w.heap.size:=lt_of_row h.row
theorem Ho.keep {w w':World} {l B:Nat} {H:Int→Option Ht} (h:Ho w l H) (hb:Below B w w') (hl:l<B):Ho w' l H:=⟨h.hb,by rw [hb.block l hl];exact h.row⟩
theorem Ho.off {w w':World} {l q:Nat} {H:Int→Option Ht} (h:Ho w l H) (hb:w.grownBy w' (some q)) (hl:l≠q):Ho w' l H:=⟨h.hb,by rw [hb.block l h.lt (by simpa using hl)];exact h.row⟩
theorem Ho.drewN {w:World} {l:Nat} {H:Int→Option Ht} (h:Ho w l H) (n:Nat):Ho (w.drewN n) l H:=⟨h.hb,h.row⟩
theorem Ho.cell {w:World} {l:Nat} {H:Int→Option Ht} (h:Ho w l H) {j:Nat} (hj:j<128):w.cell? ⟨l,j,none⟩=some (hcl H j):=cellL h.row j _ (hro_at H hj)
theorem Ho.c0 {w:World} {l:Nat} {H:Int→Option Ht} (h:Ho w l H) {f:Nat} (hf:f<32):w.cell? ⟨l,f*4,none⟩=some (.bool (H (f:Int)).isSome):=by rw [h.cell (by omega),hcl_0]
theorem Ho.c1 {w:World} {l:Nat} {H:Int→Option Ht} (h:Ho w l H) {f:Nat} (hf:f<32) {d:Bool} {s u:Nat} (e:H (f:Int)=some (d,s,u)):w.cell? ⟨l,f*4+1,none⟩=some (.bool d):=by rw [h.cell (by omega),hcl_1,e];rfl
theorem Ho.c2 {w:World} {l:Nat} {H:Int→Option Ht} (h:Ho w l H) {f:Nat} (hf:f<32) {d:Bool} {s u:Nat} (e:H (f:Int)=some (d,s,u)):w.cell? ⟨l,f*4+2,none⟩=some (.int .i64 (s:Int)):=by rw [h.cell (by omega),hcl_2,e];rfl
theorem Ho.c3 {w:World} {l:Nat} {H:Int→Option Ht} (h:Ho w l H) {f:Nat} (hf:f<32) {d:Bool} {s u:Nat} (e:H (f:Int)=some (d,s,u)):w.cell? ⟨l,f*4+3,none⟩=some (.int .i64 (u:Int)):=by rw [h.cell (by omega),hcl_3,e];rfl
theorem sizeHt:(Tryz.prog.info? 94).map (·.size)=some 4:=by kernel_rfl
theorem built_ho:Tryz.prog.built 97 []=some ((List.replicate 32 [Value.bool false,.bool false,.int .i64 0,.int .i64 0]).flatten).toArray:=by kernel_rfl
theorem wpList_store_ht {w:World} {ops:Array Oper} {rest:List Oper} {o:Oper} {a:Act} {Q:Exit→Act→World→Prop} (hgd:o.guard=none) (x y:Operand) (ho:o.op=.store 94 x y)
  (l f:Nat) (v:Option Ht) (vs:List Value) (hvs:Hid (vs=hts v)) (hx:a.eval x=.pointer (some ⟨l,f*4,none⟩)) (hy:a.eval y=.agg vs.toArray) (H:Int→Option Ht) (hg:Ho w l H) (hf:f<32) (hb:Hb (updZ H (f:Int) v))
  (h:∀ w',Hid (Ho w' l (updZ H (f:Int) v))→w.grownBy w' (some l)→wpList Tryz.prog ops Q rest (a.put o.dst undef) w'):wpList Tryz.prog ops Q (o :: rest) a w:=by
 rw [hvs.out] at hy;refine wpList_store_part hgd _ x y ho l (f*4) (hts v) hx hy _ _ hg.row (by rw [hro_len];simp [hts];omega) sizeHt (by simp [hts,Value.oneCell']) ?_
 intro w' HG hgr;exact h w' (Lib.hid ⟨hb,by rw [HG.out,hro_host H v hf]⟩) hgr
theorem h_new (w:World):Calls Tryz.prog 26 #[] w fun e w'=>e=.returned (.pointer (some ⟨w.heap.size,0,none⟩))∧Ho w' w.heap.size (fun _=>none)∧Below w.heap.size w w':=by
 go_enter Tryz.func26,Tryz.ntmps26
 have hb:=built_ho;rw [←hro_zero] at hb;obtain ⟨C,hC⟩:∃ C,(hro (fun _=>none)).toArray=C:=⟨_,rfl⟩;rw [hC] at hb;have HC:=Lib.hid hC;have HB:=Lib.hid hb;clear hC hb
 go_wp2_with (first
  | (with_reducible refine wpList_build_none rfl 97 rfl C HB.out ?_)
  | (with_reducible refine wpList_box_row rfl 97 (.tmp 1) rfl C rfl ?_))
 go_ret
 refine ⟨rfl,⟨Hb.zero,?_⟩,(Below.refl _ _).alloc (Nat.le_refl _) _⟩;rw [heap_alloc_new,←HC.out]
theorem isH_any (x:Int) (w:World):Calls Tryz.prog 57 #[.int .i64 x] w fun e w'=>e=.returned (.bool (isH x))∧w=w':=by
 by_cases h:0≤x
 ·have d:decide (0≤x)=true:=decide_eq_true h
  have r:isH x=decide (x<32):=by unfold isH;rw [d];rfl
  rw [r];clear r h
  go_enter Tryz.func57,Tryz.ntmps57
  go_wp2
  go_ret
  exact ⟨rfl,rfl⟩
 ·have d:decide (0≤x)=false:=dec_f h
  have r:isH x=false:=by unfold isH;rw [d];rfl
  rw [r];clear r h
  go_enter Tryz.func57,Tryz.ntmps57
  go_wp2
  go_ret
  exact ⟨rfl,rfl⟩
theorem h_there (l:Nat) (H:Int→Option Ht) (x:Int) (w:World) (h:Ho w l H):Calls Tryz.prog 36 #[.pointer (some ⟨l,0,none⟩),.int .i64 x] w fun e w'=>e=.returned (.bool (H x).isSome)∧w=w':=by
 cases hx:isH x with
 | true =>
  obtain ⟨f,rfl,hf⟩:=isH_nat hx;have c:=h.c0 hf;obtain ⟨v,hv⟩:∃ v,(H (f:Int)).isSome=v:=⟨_,rfl⟩;rw [hv] at c;rw [hv];have hfi:(f:Int)<32:=by omega
  have HX:=Lib.hid hx;clear hv hx h
  go_enter Tryz.func36,Tryz.ntmps36
  go_wp2_with fail
  refine (isH_any _ _).mono ?_;rintro e w' ⟨rfl,rfl⟩;rw [HX.out]
  go_wp2
  go_ret
  exact ⟨rfl,rfl⟩
 | false =>
  rw [h.hb.no hx];have HX:=Lib.hid hx;clear hx h
  go_enter Tryz.func36,Tryz.ntmps36
  go_wp2_with fail
  refine (isH_any _ _).mono ?_;rintro e w' ⟨rfl,rfl⟩;rw [HX.out]
  go_wp2
  go_ret
  exact ⟨rfl,rfl⟩
theorem h_up (l:Nat) (H:Int→Option Ht) (x:Int) (w:World) (h:Ho w l H):Calls Tryz.prog 113 #[.pointer (some ⟨l,0,none⟩),.int .i64 x] w fun e w'=>e=.returned (.bool (upB H x))∧w=w':=by
 cases hx:H x with
 | none =>
  rw [show upB H x=false by unfold upB;rw [hx]]
  have HX:=Lib.hid hx;clear hx
  go_enter Tryz.func113,Tryz.ntmps113
  go_wp2_with fail
  refine (h_there l H x _ h).mono ?_;rintro e w' ⟨rfl,rfl⟩;rw [HX.out];simp only [Option.isSome]
  go_wp2
  go_ret
  exact ⟨rfl,rfl⟩
 | some v =>
  obtain ⟨d,s,u⟩:=v;rw [show upB H x=!d by unfold upB;rw [hx]]
  obtain ⟨f,rfl,hf⟩:=h.hb.nat hx;have c:=h.c1 hf hx;have hfi:(f:Int)<32:=by omega
  have HX:=Lib.hid hx;clear hx
  go_enter Tryz.func113,Tryz.ntmps113
  go_wp2_with fail
  refine (h_there l H (f:Int) _ h).mono ?_;rintro e w' ⟨rfl,rfl⟩;rw [HX.out];simp only [Option.isSome]
  go_wp2
  go_ret
  exact ⟨rfl,rfl⟩
theorem h_free (l:Nat) (H:Int→Option Ht) (x:Int) (w:World) (h:Ho w l H):Calls Tryz.prog 20 #[.pointer (some ⟨l,0,none⟩),.int .i64 x] w fun e w'=>e=.returned (.int .i64 (fr H x))∧∃ m,w'=w.drewN m:=by
 cases hx:H x with
 | none =>
  rw [show fr H x=0 by unfold fr;rw [hx]]
  have HX:=Lib.hid hx;clear hx
  go_enter Tryz.func20,Tryz.ntmps20
  go_wp2_with fail
  refine (h_there l H x _ h).mono ?_;rintro e w' ⟨rfl,rfl⟩;rw [HX.out];simp only [Option.isSome]
  go_wp2
  go_ret
  exact ⟨rfl,0,rfl⟩
 | some v =>
  obtain ⟨d,s,u⟩:=v;rw [show fr H x=(s:Int)-(u:Int) by unfold fr;rw [hx]]
  have hbd:=h.hb x d s u hx;obtain ⟨f,rfl,hf⟩:=h.hb.nat hx;have c2:=h.c2 hf hx;have c3:=h.c3 hf hx;have hfi:(f:Int)<32:=by omega
  have hw:IntKind.i64.wrap ((s:Int)-(u:Int))=(s:Int)-(u:Int):=by rw [IntKind.wrap_i64];omega
  have HX:=Lib.hid hx;clear hx hbd
  go_enter Tryz.func20,Tryz.ntmps20
  go_wp2_with fail
  refine (h_there l H (f:Int) _ h).mono ?_;rintro e w' ⟨rfl,rfl⟩;rw [HX.out];simp only [Option.isSome];go_wp2_with fail
  go_quiet (fail)
  go_wp2_with fail
  go_ret
  exact ⟨rfl,_,rfl⟩
theorem updZ_id {α:Type} (H:Int→Option α) {x:Int} {v:Option α} (h:H x=v):updZ H x v=H:=by
 funext y
 by_cases e:y=x
 ·subst e;rw [updZ_same,h]
 ·rw [updZ_ne _ _ e]
theorem hts_gone:Hid ([Value.bool false,.bool false,.int .i64 0,.int .i64 0]=hts none):=Lib.hid rfl
theorem hts_new {n:Int} (h:1≤n):Hid ([Value.bool true,.bool false,.int .i64 n,.int .i64 0]=hts (some (false,n.toNat,0))):=by
 refine Lib.hid ?_;show _=[Value.bool true,.bool false,.int .i64 ((n.toNat:Nat):Int),.int .i64 ((0:Nat):Int)];rw [Int.toNat_of_nonneg (by omega)];rfl
theorem h_leave (l:Nat) (H:Int→Option Ht) (f:Nat) (d:Bool) (s u:Nat) (w:World) (h:Ho w l H) (hx:H (f:Int)=some (d,s,u)) :
  Calls Tryz.prog 126 #[.pointer (some ⟨l,0,none⟩),.int .i64 (f:Int)] w fun e w'=>e=.returned (.tuple #[])∧Ho w' l (updZ H (f:Int) (lv d s u))∧w.grownBy w' (some l):=by
 have hbd:=h.hb _ d s u hx;have hf:f<32:=by omega
 have hfi:(f:Int)<32:=by omega
 have c1:=h.c1 hf hx;have c3:=h.c3 hf hx;have HH:=Lib.hid h
 cases d with
 | false =>
  rw [show lv false s u=some (false,s,u) from rfl,updZ_id H hx]
  clear hx h hbd
  go_enter Tryz.func126,Tryz.ntmps126
  go_wp2
  go_end0
  exact ⟨rfl,HH.out,World.grownBy.refl _ _⟩
 | true =>
  cases u with
  | zero =>
   rw [show lv true s 0=none from rfl]
   have HG:=Lib.hid (h.hb.gone (f:Int));clear hx h hbd
   go_enter Tryz.func126,Tryz.ntmps126
   go_wp2_with (with_reducible refine wpList_store_ht rfl (.tmp 26) (.tmp 23) rfl l f none _ hts_gone rfl rfl H HH.out hf HG.out ?_;intro w2 HG2 hg2)
   go_end0
   exact ⟨rfl,HG2.out,hg2⟩
  | succ n =>
   rw [show lv true s (n+1)=some (true,s,n+1) from rfl,updZ_id H hx]
   have hn0:((n:Int)+1 == 0)=false:=by simp;omega
   have c3':w.cell? ⟨l,f*4+3,none⟩=some (.int .i64 ((n:Int)+1)):=c3;clear hx h hbd c3
   go_enter Tryz.func126,Tryz.ntmps126
   go_wp2
   go_end0
   exact ⟨rfl,HH.out,World.grownBy.refl _ _⟩
theorem h_add (l:Nat) (H:Int→Option Ht) (x n:Int) (w:World) (h:Ho w l H) :
  Calls Tryz.prog 80 #[.pointer (some ⟨l,0,none⟩),.int .i64 x,.int .i64 n] w fun e w'=>e=.returned (.int .i64 (addC H x n))∧Ho w' l (addH H x n)∧w.grownBy w' (some l):=by
 have HH:=Lib.hid h
 cases hx:isH x with
 | false =>
  have e1:addC H x n=1:=by unfold addC;rw [if_pos (Or.inl hx)]
  have e2:addH H x n=H:=by unfold addH;rw [e1];rfl
  rw [e1,e2];clear e1 e2;have HX:=Lib.hid hx;clear hx h
  go_enter Tryz.func80,Tryz.ntmps80
  go_wp2_with fail
  refine (isH_any _ _).mono ?_;rintro e w' ⟨rfl,rfl⟩;rw [HX.out]
  go_wp2
  go_ret
  exact ⟨rfl,HH.out,World.grownBy.refl _ _⟩
 | true =>
 have HX:=Lib.hid hx
 by_cases h1:n<1
 ·have e1:addC H x n=1:=by unfold addC;rw [if_pos (Or.inr (Or.inl h1))]
  have e2:addH H x n=H:=by unfold addH;rw [e1];rfl
  rw [e1,e2];clear e1 e2;have d1:decide (n<1)=true:=decide_eq_true h1;clear hx h h1
  go_enter Tryz.func80,Tryz.ntmps80
  go_wp2_with fail
  refine (isH_any _ _).mono ?_;rintro e w' ⟨rfl,rfl⟩;rw [HX.out]
  go_wp2
  go_ret
  exact ⟨rfl,HH.out,World.grownBy.refl _ _⟩
 have d1:decide (n<1)=false:=dec_f h1
 by_cases h2:4096<n
 ·have e1:addC H x n=1:=by unfold addC;rw [if_pos (Or.inr (Or.inr h2))]
  have e2:addH H x n=H:=by unfold addH;rw [e1];rfl
  rw [e1,e2];clear e1 e2;have d2:decide (4096<n)=true:=decide_eq_true h2;clear hx h h1 h2
  go_enter Tryz.func80,Tryz.ntmps80
  go_wp2_with fail
  refine (isH_any _ _).mono ?_;rintro e w' ⟨rfl,rfl⟩;rw [HX.out]
  go_wp2
  go_ret
  exact ⟨rfl,HH.out,World.grownBy.refl _ _⟩
 have d2:decide (4096<n)=false:=dec_f h2;obtain ⟨f,rfl,hf⟩:=isH_nat hx;have hfi:(f:Int)<32:=by omega
 have hno:¬ (isH (f:Int)=false∨n<1∨4096<n):=by rw [hx];simp;omega
 cases hv:H (f:Int) with
 | some v =>
  have e1:addC H (f:Int) n=3:=by unfold addC;rw [if_neg hno,hv];rfl
  have e2:addH H (f:Int) n=H:=by unfold addH;rw [e1];rfl
  rw [e1,e2];have HV:=Lib.hid hv;clear e1 e2 hno hv h1 h2 hx h
  go_enter Tryz.func80,Tryz.ntmps80
  go_wp2_with fail
  refine (isH_any _ _).mono ?_;rintro e w' ⟨rfl,rfl⟩;rw [HX.out];go_wp2_with fail
  refine (h_there l H (f:Int) _ HH.out).mono ?_;rintro e w' ⟨rfl,rfl⟩;rw [HV.out];simp only [Option.isSome]
  go_wp2
  go_ret
  exact ⟨rfl,HH.out,World.grownBy.refl _ _⟩
 | none =>
  have e1:addC H (f:Int) n=0:=by unfold addC;rw [if_neg hno,hv];rfl
  have e2:addH H (f:Int) n=updZ H (f:Int) (some (false,n.toNat,0)):=by unfold addH;rw [e1];rfl
  rw [e1,e2];have HV:=Lib.hid hv;have HB:=Lib.hid (h.hb.put (d:=false) (u:=0) (s:=n.toNat) hf (by omega) (by omega) (by omega))
  have HT:=hts_new (n:=n) (by omega)
  clear e1 e2 hno hv h1 h2 hx h
  go_enter Tryz.func80,Tryz.ntmps80
  go_wp2_with fail
  refine (isH_any _ _).mono ?_;rintro e w' ⟨rfl,rfl⟩;rw [HX.out];go_wp2_with fail
  refine (h_there l H (f:Int) _ HH.out).mono ?_;rintro e w' ⟨rfl,rfl⟩;rw [HV.out];simp only [Option.isSome];go_wp2_with (with_reducible refine wpList_store_ht rfl (.tmp 27) (.tmp 24) rfl l f (some (false,n.toNat,0)) _ HT rfl rfl H HH.out hf HB.out ?_;intro w2 HG2 hg2)
  go_ret
  exact ⟨rfl,HG2.out,hg2⟩
theorem h_fail (l:Nat) (H:Int→Option Ht) (x:Int) (w:World) (h:Ho w l H) :
  Calls Tryz.prog 89 #[.pointer (some ⟨l,0,none⟩),.int .i64 x] w fun e w'=>e=.returned (.int .i64 (faC H x))∧Ho w' l (updZ H x none)∧w.grownBy w' (some l):=by
 have HH:=Lib.hid h
 cases hv:H x with
 | none =>
  rw [show faC H x=2 by unfold faC;rw [hv],updZ_id H hv]
  have HV:=Lib.hid hv;clear hv h
  go_enter Tryz.func89,Tryz.ntmps89
  go_wp2_with fail
  refine (h_there l H x _ HH.out).mono ?_;rintro e w' ⟨rfl,rfl⟩;rw [HV.out];simp only [Option.isSome]
  go_wp2
  go_ret
  exact ⟨rfl,HH.out,World.grownBy.refl _ _⟩
 | some v =>
  obtain ⟨d,s,u⟩:=v;rw [show faC H x=0 by unfold faC;rw [hv]]
  obtain ⟨f,rfl,hf⟩:=h.hb.nat hv;have hfi:(f:Int)<32:=by omega
  have HV:=Lib.hid hv;have HB:=Lib.hid (h.hb.gone (f:Int));clear hv h
  go_enter Tryz.func89,Tryz.ntmps89
  go_wp2_with fail
  refine (h_there l H (f:Int) _ HH.out).mono ?_;rintro e w' ⟨rfl,rfl⟩;rw [HV.out];simp only [Option.isSome];go_wp2_with (with_reducible refine wpList_store_ht rfl (.tmp 14) (.tmp 11) rfl l f none _ hts_gone rfl rfl H HH.out hf HB.out ?_;intro w2 HG2 hg2)
  go_ret
  exact ⟨rfl,HG2.out,hg2⟩
theorem h_drain (l:Nat) (H:Int→Option Ht) (x:Int) (w:World) (h:Ho w l H) :
  Calls Tryz.prog 83 #[.pointer (some ⟨l,0,none⟩),.int .i64 x] w fun e w'=>e=.returned (.int .i64 (drC H x))∧Ho w' l (drH H x)∧w.grownBy w' (some l):=by
 have HH:=Lib.hid h
 cases hv:H x with
 | none =>
  rw [show drC H x=2 by unfold drC;rw [hv],show drH H x=H by unfold drH;rw [hv]]
  have HV:=Lib.hid hv;clear hv h
  go_enter Tryz.func83,Tryz.ntmps83
  go_wp2_with fail
  refine (h_there l H x _ HH.out).mono ?_;rintro e w' ⟨rfl,rfl⟩;rw [HV.out];simp only [Option.isSome]
  go_wp2
  go_ret
  exact ⟨rfl,HH.out,World.grownBy.refl _ _⟩
 | some v =>
  obtain ⟨d,s,u⟩:=v;obtain ⟨f,rfl,hf⟩:=h.hb.nat hv;have hfi:(f:Int)<32:=by omega
  have c1:=h.c1 hf hv;have HV:=Lib.hid hv
  cases d with
  | true =>
   rw [show drC H (f:Int)=3 by unfold drC;rw [hv],show drH H (f:Int)=H by unfold drH;rw [hv]]
   clear hv h
   go_enter Tryz.func83,Tryz.ntmps83
   go_wp2_with fail
   refine (h_there l H (f:Int) _ HH.out).mono ?_;rintro e w' ⟨rfl,rfl⟩;rw [HV.out];simp only [Option.isSome]
   go_wp2
   go_ret
   exact ⟨rfl,HH.out,World.grownBy.refl _ _⟩
  | false =>
   rw [show drC H (f:Int)=0 by unfold drC;rw [hv],show drH H (f:Int)=updZ H (f:Int) (lv true s u) by unfold drH;rw [hv]]
   have hbd:=h.hb _ _ _ _ hv;have HB:=Lib.hid (h.hb.put (d:=true) (u:=u) (s:=s) hf (by omega) (by omega) (by omega))
   have hrow:=Lib.hid h.row;have HLEN:=Lib.hid (show f*4+1<(hro H).length by rw [hro_len];omega)
   clear hv h hbd
   go_enter Tryz.func83,Tryz.ntmps83
   go_wp2_with fail
   refine (h_there l H (f:Int) _ HH.out).mono ?_;rintro e w' ⟨rfl,rfl⟩;rw [HV.out];simp only [Option.isSome];go_wp2_with (with_reducible refine wpList_store_boolin rfl 4 (.tmp 21) (.const (.bool true)) rfl (by kernel_rfl) l (f*4+1) rfl true rfl _ _ hrow.out HLEN.out ?_;intro w2 HG2 hg2)
   have h2:Ho w2 l (updZ H (f:Int) (some (true,s,u))):=⟨HB.out,by rw [HG2.out,hro_drain H true hf HV.out]⟩
   refine (h_leave l _ f true s u _ h2 (updZ_same _ _ _)).mono ?_;rintro e w3 ⟨rfl,h3,hg3⟩;rw [updZ_twice] at h3;have H3:=Lib.hid h3;clear h2 h3 c1
   go_wp2
   go_ret
   exact ⟨rfl,H3.out,grown_trans hg2 hg3⟩
theorem up_cases {H:Int→Option Ht} {x:Int} (h:upB H x=false) (m:Int):tkB H x m=false∧tkH H x m=H:=by
 unfold upB at h;unfold tkB tkH
 cases q:H x with
 | none=>exact ⟨rfl,rfl⟩
 | some v =>
  obtain ⟨d,s,u⟩:=v;rw [q] at h
  cases d with
  | true=>exact ⟨rfl,rfl⟩
  | false=>cases h
theorem up_some {H:Int→Option Ht} {x:Int} (h:upB H x=true):∃ s u,H x=some (false,s,u):=by
 unfold upB at h
 cases q:H x with
 | none=>rw [q] at h;cases h
 | some v =>
  obtain ⟨d,s,u⟩:=v;rw [q] at h
  cases d with
  | false=>exact ⟨s,u,rfl⟩
  | true=>cases h
theorem cast_add {u:Nat} {m:Int} (h:0≤m):((u+m.toNat:Nat):Int)=(u:Int)+m:=by omega
theorem cast_sub {u:Nat} {m:Int} (h:0≤m) (k:m≤(u:Int)):((u-m.toNat:Nat):Int)=(u:Int)-m:=by omega
theorem h_take (l:Nat) (H:Int→Option Ht) (x m:Int) (w:World) (h:Ho w l H) :
  Calls Tryz.prog 115 #[.pointer (some ⟨l,0,none⟩),.int .i64 x,.int .i64 m] w fun e w'=>e=.returned (.bool (tkB H x m))∧Ho w' l (tkH H x m)∧w.grownBy w' (some l):=by
 have HH:=Lib.hid h
 cases hu:upB H x with
 | false =>
  obtain ⟨e1,e2⟩:=up_cases hu m;rw [e1,e2];have HU:=Lib.hid hu;clear hu h e1 e2
  go_enter Tryz.func115,Tryz.ntmps115
  go_wp2_with fail
  refine (h_up l H x _ HH.out).mono ?_;rintro e w' ⟨rfl,rfl⟩;rw [HU.out]
  go_wp2
  go_ret
  exact ⟨rfl,HH.out,World.grownBy.refl _ _⟩
 | true =>
 obtain ⟨s,u,hv⟩:=up_some hu;have HU:=Lib.hid hu;have hbd:=h.hb _ _ _ _ hv;obtain ⟨r,hr⟩:∃ r:Int,fr H x=r:=⟨_,rfl⟩;have HR:=Lib.hid hr;have hrs:r=(s:Int)-(u:Int):=by rw [←hr];unfold fr;rw [hv]
 by_cases h0:m<0
 ·have e1:tkB H x m=false:=by unfold tkB;rw [hv];simp;omega
  have e2:tkH H x m=H:=by unfold tkH;rw [hv];simp;omega
  rw [e1,e2];have d0:decide (m<0)=true:=decide_eq_true h0;clear hu h e1 e2 hv hbd hr hrs h0
  go_enter Tryz.func115,Tryz.ntmps115
  go_wp2_with fail
  refine (h_up l H x _ HH.out).mono ?_;rintro e w' ⟨rfl,rfl⟩;rw [HU.out]
  go_wp2
  go_ret
  exact ⟨rfl,HH.out,World.grownBy.refl _ _⟩
 have d0:decide (m<0)=false:=dec_f h0
 by_cases h1:r<m
 ·have e1:tkB H x m=false:=by unfold tkB;rw [hv];simp;omega
  have e2:tkH H x m=H:=by unfold tkH;rw [hv];simp;omega
  rw [e1,e2];have d1:decide (r<m)=true:=decide_eq_true h1;clear hu h e1 e2 hv hbd hr hrs h0 h1
  go_enter Tryz.func115,Tryz.ntmps115
  go_wp2_with fail
  refine (h_up l H x _ HH.out).mono ?_;rintro e w' ⟨rfl,rfl⟩;rw [HU.out];go_wp2_with fail
  refine (h_free l H x _ HH.out).mono ?_;rintro e w1 ⟨rfl,n0,hw1⟩;have hg1:w.grownBy w1 (some l):=by rw [hw1];exact grown_drewN _ _ _
  have hh1:Ho w1 l H:=by rw [hw1];exact HH.out.drewN n0
  have HW1:=Lib.hid hw1;clear hw1;rw [HR.out]
  go_wp2
  go_ret
  exact ⟨rfl,hh1,hg1⟩
 ·have e1:tkB H x m=true:=by unfold tkB;rw [hv];simp;omega
  have e2:tkH H x m=updZ H x (some (false,s,u+m.toNat)):=by unfold tkH;rw [hv];exact if_pos (by omega)
  rw [e1,e2];have d1:decide (r<m)=false:=dec_f h1;obtain ⟨f,hf0,hf⟩:=h.hb.nat hv;have HB:=Lib.hid (h.hb.put (d:=false) (u:=u+m.toNat) (s:=s) hf (by omega) (by omega) (by omega))
  have HLEN:=Lib.hid (show f*4+3<(hro H).length by rw [hro_len];omega)
  have HC:=Lib.hid (cast_add (u:=u) (m:=m) (by omega))
  have hw:IntKind.i64.wrap ((u:Int)+m)=(u:Int)+m:=by rw [IntKind.wrap_i64];omega
  have hfi:(f:Int)<32:=by omega
  have HV:=Lib.hid hv;subst hf0;clear hu h e1 e2 hv hbd hr hrs h0 h1
  go_enter Tryz.func115,Tryz.ntmps115
  go_wp2_with fail
  refine (h_up l H (f:Int) _ HH.out).mono ?_;rintro e w' ⟨rfl,rfl⟩;rw [HU.out];go_wp2_with fail
  refine (h_free l H (f:Int) _ HH.out).mono ?_;rintro e w1 ⟨rfl,n0,hw1⟩;have hg1:w.grownBy w1 (some l):=by rw [hw1];exact grown_drewN _ _ _
  have hh1:Ho w1 l H:=by rw [hw1];exact HH.out.drewN n0
  have HW1:=Lib.hid hw1;clear hw1;rw [HR.out];have c3:=hh1.c3 hf HV.out;have hrow:=Lib.hid hh1.row;go_wp2_with fail
  go_still_tail 13,(by kernel_rfl)
  change wpList _ _ _ _ _ w1.drew;have hd:=grown_drew hg1;have hg2:Hid (w1.drew.heap[l]?=_):=hrow;generalize w1.drew=w2 at hd hg2 ⊢;refine wpList_store_in rfl 3 (.tmp 34) (.tmp 30) rfl (by kernel_rfl) l (f*4+3) rfl .i64 ((u:Int)+m) rfl _ _ hg2.out HLEN.out ?_
  intro w3 HG3 hg3;clear c3 hw
  go_wp2
  go_ret
  refine ⟨rfl,⟨HB.out,?_⟩,grown_trans hd hg3⟩;rw [HG3.out,←HC.out,hro_used H _ hf HV.out]
theorem h_give (l:Nat) (H:Int→Option Ht) (x m:Int) (w:World) (h:Ho w l H) :
  Calls Tryz.prog 129 #[.pointer (some ⟨l,0,none⟩),.int .i64 x,.int .i64 m] w fun e w'=>e=.returned (.bool (gvB H x m))∧Ho w' l (gvH H x m)∧w.grownBy w' (some l):=by
 have HH:=Lib.hid h
 cases hv:H x with
 | none =>
  have e1:gvB H x m=false:=by unfold gvB;rw [hv]
  have e2:gvH H x m=H:=by unfold gvH;rw [hv]
  rw [e1,e2];have HV:=Lib.hid hv;clear hv h e1 e2
  go_enter Tryz.func129,Tryz.ntmps129
  go_wp2_with fail
  refine (h_there l H x _ HH.out).mono ?_;rintro e w' ⟨rfl,rfl⟩;rw [HV.out];simp only [Option.isSome]
  go_wp2
  go_ret
  exact ⟨rfl,HH.out,World.grownBy.refl _ _⟩
 | some v =>
 obtain ⟨d,s,u⟩:=v;have HV:=Lib.hid hv;have hbd:=h.hb _ _ _ _ hv
 by_cases h0:m<0
 ·have e1:gvB H x m=false:=by unfold gvB;rw [hv];simp;omega
  have e2:gvH H x m=H:=by unfold gvH;rw [hv];simp;omega
  rw [e1,e2];have d0:decide (m<0)=true:=decide_eq_true h0;clear h e1 e2 hv hbd h0
  go_enter Tryz.func129,Tryz.ntmps129
  go_wp2_with fail
  refine (h_there l H x _ HH.out).mono ?_;rintro e w' ⟨rfl,rfl⟩;rw [HV.out];simp only [Option.isSome]
  go_wp2
  go_ret
  exact ⟨rfl,HH.out,World.grownBy.refl _ _⟩
 have d0:decide (m<0)=false:=dec_f h0;obtain ⟨f,hf0,hf⟩:=h.hb.nat hv;subst hf0;have hfi:(f:Int)<32:=by omega
 have c3:=h.c3 hf hv
 by_cases h1:(u:Int)<m
 ·have e1:gvB H (f:Int) m=false:=by unfold gvB;rw [hv];simp;omega
  have e2:gvH H (f:Int) m=H:=by unfold gvH;rw [hv];simp;omega
  rw [e1,e2];have d1:decide ((u:Int)<m)=true:=decide_eq_true h1;clear h e1 e2 hv hbd h0 h1
  go_enter Tryz.func129,Tryz.ntmps129
  go_wp2_with fail
  refine (h_there l H (f:Int) _ HH.out).mono ?_;rintro e w' ⟨rfl,rfl⟩;rw [HV.out];simp only [Option.isSome]
  go_wp2
  go_ret
  exact ⟨rfl,HH.out,World.grownBy.refl _ _⟩
 ·have e1:gvB H (f:Int) m=true:=by unfold gvB;rw [hv];simp;omega
  have e2:gvH H (f:Int) m=updZ H (f:Int) (lv d s (u-m.toNat)):=by unfold gvH;rw [hv];exact if_pos (by omega)
  rw [e1,e2];have d1:decide ((u:Int)<m)=false:=dec_f h1;have HB:=Lib.hid (h.hb.put (d:=d) (u:=u-m.toNat) (s:=s) hf (by omega) (by omega) (by omega))
  have HLEN:=Lib.hid (show f*4+3<(hro H).length by rw [hro_len];omega)
  have HC:=Lib.hid (cast_sub (u:=u) (m:=m) (by omega) (by omega))
  have hw:IntKind.i64.wrap ((u:Int)-m)=(u:Int)-m:=by rw [IntKind.wrap_i64];omega
  have hrow:=Lib.hid h.row;clear h e1 e2 hv hbd h0 h1
  go_enter Tryz.func129,Tryz.ntmps129
  go_wp2_with fail
  refine (h_there l H (f:Int) _ HH.out).mono ?_;rintro e w' ⟨rfl,rfl⟩;rw [HV.out];simp only [Option.isSome];go_wp2_with fail
  go_still_tail 13,(by kernel_rfl)
  change wpList _ _ _ _ _ w.drew;have hd:=grown_drew (World.grownBy.refl w (some l));have hg2:Hid (w.drew.heap[l]?=_):=hrow;generalize w.drew=w2 at hd hg2 ⊢;refine wpList_store_in rfl 3 (.tmp 38) (.tmp 34) rfl (by kernel_rfl) l (f*4+3) rfl .i64 ((u:Int)-m) rfl _ _ hg2.out HLEN.out ?_
  intro w3 HG3 hg3;have h3:Ho w3 l (updZ H (f:Int) (some (d,s,u-m.toNat))):=⟨HB.out,by rw [HG3.out,←HC.out,hro_used H _ hf HV.out]⟩
  clear c3 hw;go_wp2_with fail
  refine (h_leave l _ f d s (u-m.toNat) _ h3 (updZ_same _ _ _)).mono ?_;rintro e w4 ⟨rfl,h4,hg4⟩;rw [updZ_twice] at h4;have H4:=Lib.hid h4;clear h3 h4
  go_wp2
  go_ret
  exact ⟨rfl,H4.out,grown_trans (grown_trans hd hg3) hg4⟩
theorem fitT_skip {H:Int→Option Ht} {m:Int} {n:Nat} (h:fits H m n=false):fitT H m (n+1)=fitT H m n:=by
 show (if fits H m n then _ else _)=_
 rw [h];rfl
theorem fitT_turn {H:Int→Option Ht} {m:Int} {n b:Nat} {g:Bool} (h:fits H m n=true) (hr:fitT H m n=(b,g)) (hq:g=false∨fr H (n:Int)<fr H (b:Int)):fitT H m (n+1)=(n,true):=by
 show (if fits H m n then _ else _)=_
 rw [if_pos h,hr];exact if_pos hq
theorem fitT_stay {H:Int→Option Ht} {m:Int} {n b:Nat} {g:Bool} (h:fits H m n=true) (hr:fitT H m n=(b,g)) (hq:¬ (g=false∨fr H (n:Int)<fr H (b:Int))):fitT H m (n+1)=(b,g):=by
 show (if fits H m n then _ else _)=_
 rw [if_pos h,hr];exact if_neg hq
theorem h_fit (l:Nat) (H:Int→Option Ht) (m:Int) (w:World) (h:Ho w l H) :
  Calls Tryz.prog 112 #[.pointer (some ⟨l,0,none⟩),.int .i64 m] w fun e w'=>e=.returned (.tuple #[.int .i64 ((fit H m).1:Int),.bool (fit H m).2])∧∃ q,w'=w.drewN q:=by
 by_cases h0:m<0
 ·have d0:decide (m<0)=true:=decide_eq_true h0
  rw [show fit H m=(0,false) by unfold fit;rw [if_pos h0]]
  clear h0
  go_enter Tryz.func112,Tryz.ntmps112
  go_wp2
  go_ret2
  exact ⟨rfl,0,rfl⟩
 have d0:decide (m<0)=false:=dec_f h0;rw [show fit H m=fitT H m 32 by unfold fit;rw [if_neg h0]]
 clear h0
 go_enter Tryz.func112,Tryz.ntmps112
 go_wp2_with fail
 go_loopg [6,7,11] 32 (fun gk v6 v7 vi wr=>∃ (n b:Nat) (g:Bool),v6=.int .i64 (b:Int)∧v7=.bool g∧vi=.int .i64 (n:Int)∧n+gk=32∧fitT H m n=(b,g)∧∃ q,wr=w.drewN q)
 case atStart=>exact ⟨0,0,false,rfl,rfl,rfl,rfl,rfl,0,rfl⟩
 case round =>
  obtain ⟨n,b,g,rfl,rfl,rfl,hnk,hT,q0,hwr⟩:=hrel;have HNK:=Lib.hid hnk;have HT:=Lib.hid hT;have HQ0:=Lib.hid hwr;have hh0:Ho wr l H:=by rw [hwr];exact h.drewN _
  clear hT hwr
  by_cases hn:n<32
  ·have hni:(n:Int)<32:=by omega
   clear hnk;obtain ⟨r,hr⟩:∃ r:Int,fr H (n:Int)=r:=⟨_,rfl⟩;obtain ⟨r',hr'⟩:∃ r:Int,fr H (b:Int)=r:=⟨_,rfl⟩;have HR:=Lib.hid hr;have HR':=Lib.hid hr';clear hr hr'
   cases hu:upB H (n:Int) with
   | false =>
    have HF:=Lib.hid (fitT_skip (H:=H) (m:=m) (n:=n) (by unfold fits;rw [hu];rfl))
    have HU:=Lib.hid hu;clear hu;go_wp2_with fail
    refine (h_up l H (n:Int) _ hh0).mono ?_;rintro e w1 ⟨rfl,rfl⟩;rw [HU.out];go_wp2_with fail
    go_roundg (gk-1)
    case measure=>have:=HNK.out;omega
    case rel=>exact ⟨n+1,b,g,rfl,rfl,by go_num,by have:=HNK.out;omega,HF.out.trans HT.out,_,HQ0.out⟩
   | true =>
    have HU:=Lib.hid hu
    by_cases h1:r<m
    ·have HF:=Lib.hid (fitT_skip (H:=H) (m:=m) (n:=n) (by unfold fits;rw [hu,HR.out];simp;omega))
     have d1:decide (r<m)=true:=decide_eq_true h1;clear hu h1;go_wp2_with fail
     refine (h_up l H (n:Int) _ hh0).mono ?_;rintro e w1 ⟨rfl,rfl⟩;rw [HU.out];go_wp2_with fail
     refine (h_free l H (n:Int) _ hh0).mono ?_;rintro e w1 ⟨rfl,n0,hw1⟩;rw [HR.out];have hh1:Ho w1 l H:=by rw [hw1];exact hh0.drewN _
     have HW1:=Lib.hid hw1;clear hw1;go_wp2_with fail
     go_roundg (gk-1)
     case measure=>have:=HNK.out;omega
     case rel=>exact ⟨n+1,b,g,rfl,rfl,by go_num,by have:=HNK.out;omega,HF.out.trans HT.out,q0+n0,by rw [HW1.out,HQ0.out,drewN_two]⟩
    ·have HF:=Lib.hid (show fits H m n=true by unfold fits;rw [hu,HR.out];simp;omega)
     have d1:decide (r<m)=false:=dec_f h1;clear hu h1;go_wp2_with fail
     refine (h_up l H (n:Int) _ hh0).mono ?_;rintro e w1 ⟨rfl,rfl⟩;rw [HU.out];go_wp2_with fail
     refine (h_free l H (n:Int) _ hh0).mono ?_;rintro e w1 ⟨rfl,n0,hw1⟩;rw [HR.out];have hh1:Ho w1 l H:=by rw [hw1];exact hh0.drewN _
     have HW1:=Lib.hid hw1;clear hw1
     cases g with
     | false =>
      go_wp2_with fail
      go_roundg (gk-1)
      case measure=>have:=HNK.out;omega
      case rel=>exact ⟨n+1,n,true,rfl,rfl,by go_num,by have:=HNK.out;omega,fitT_turn HF.out HT.out (Or.inl rfl),q0+n0,by rw [HW1.out,HQ0.out,drewN_two]⟩
     | true =>
      go_wp2_with fail
      refine (h_free l H (n:Int) _ hh1).mono ?_;rintro e w2 ⟨rfl,n1,hw2⟩;rw [HR.out];have hh2:Ho w2 l H:=by rw [hw2];exact hh1.drewN _
      have HW2:=Lib.hid hw2;clear hw2;go_wp2_with fail
      refine (h_free l H (b:Int) _ hh2).mono ?_;rintro e w3 ⟨rfl,n2,hw3⟩;rw [HR'.out];have hh3:Ho w3 l H:=by rw [hw3];exact hh2.drewN _
      have HW3:=Lib.hid hw3;clear hw3
      by_cases h2:r<r'
      ·have d2:decide (r<r')=true:=decide_eq_true h2
       have HE:=Lib.hid (fitT_turn HF.out HT.out (Or.inr (by rw [HR.out,HR'.out];exact h2)))
       clear h2;go_wp2_with fail
       go_roundg (gk-1)
       case measure=>have:=HNK.out;omega
       case rel=>exact ⟨n+1,n,true,rfl,rfl,by go_num,by have:=HNK.out;omega,HE.out,q0+(n0+(n1+n2)),by rw [HW3.out,HW2.out,HW1.out,HQ0.out,drewN_two,drewN_two,drewN_two]⟩
      ·have d2:decide (r<r')=false:=dec_f h2
       have HE:=Lib.hid (fitT_stay HF.out HT.out (by rw [HR.out,HR'.out];simp;omega))
       clear h2;go_wp2_with fail
       go_roundg (gk-1)
       case measure=>have:=HNK.out;omega
       case rel=>exact ⟨n+1,b,true,rfl,rfl,by go_num,by have:=HNK.out;omega,HE.out,q0+(n0+(n1+n2)),by rw [HW3.out,HW2.out,HW1.out,HQ0.out,drewN_two,drewN_two,drewN_two]⟩
  ·obtain rfl:n=32:=by omega
   clear hnk hn;go_wp2_with fail
   go_ret2
   rw [HT.out];exact ⟨rfl,q0,HQ0.out⟩
end Go.Proofs.YthdengocipfgiaaGreat.W
