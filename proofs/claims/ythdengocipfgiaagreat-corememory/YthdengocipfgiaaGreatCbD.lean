import Derived.RangeFuncIn
import Derived.RangeFuncRecord
import Derived.RangeFuncSeq
import Derived.RangeFuncOwn
import Derived.RangeFuncLeaves
import Derived.ControlIn
import Derived.Test.YthdengocipfgiaaGreatCaA
import Derived.Test.YthdengocipfgiaaGreatCbC
import Derived.Deep.LoopGhost
import Derived.RangeFuncNested
import Derived.RangeFuncCalls
import Derived.Shelf.RegionOpen
import Derived.WalkKit
import Derived.OwnWalkIn
import Derived.TacticsInMore
import Derived.LoopNIn
import Derived.LoopIn
/- A part of what core's laws stand on. -/
set_option linter.unusedVariables false
set_option linter.unusedSimpArgs false
set_option maxRecDepth 100000
set_option maxHeartbeats 1600000
namespace Go.Proofs.YthdengocipfgiaaGreat.W
open Go.RowKit
def recOf (fn:FuncId) (a:Act) (ps:Array Tmp) (assign body:Code) (D:Nat) (st:LoopState) (pe:Option Code):Loop:={ state:=st,pending:=pe,fn,tmps:=a.tmps,params:=ps,assign,body,defers:=D }
def loopW (w:World) (r:Loop):World:=(w.alloc (.deferred (some []))).alloc (.loop r)
theorem loopW_size (w:World) (r:Loop):(loopW w r).heap.size=w.heap.size+2:=by unfold loopW;rw [World.size_alloc,World.size_alloc]
theorem loopW_rec (w:World) (r:Loop):(loopW w r).heap[w.heap.size+1]?=some (.loop r):=by
 unfold loopW;have:=World.alloc_heap_new (w.alloc (.deferred (some []))) (.loop r);rwa [World.size_alloc] at this
theorem loopW_def (w:World) (r:Loop):(loopW w r).heap[w.heap.size]?=some (.deferred (some [])):=by
 unfold loopW;exact (Below.heap_alloc _ _ _ (by simp)).trans (World.alloc_heap_new w _)
theorem loopW_below (w:World) (r:Loop):Below w.heap.size w (loopW w r):=(((Below.refl _ w).alloc (Nat.le_refl _) _).alloc (by simp) _)
theorem putObj_only (w:World) (r:Nat) (o:Obj):Only w (w.putObj r o) (fun j=>j=r):=Only.grown (grownBy_putObj' w r o) (Or.inl rfl)
variable {P:Program} {n:Nat}
theorem range_func {g:Operand} {ps:Array Tmp} {assign body:Code} {Q:Exit→Act→World→Prop} {a:Act} {w:World} {gf:Nat} {lb:Array Value}
  (hg:a.eval g=.func (.func gf) #[] lb) (eg:∀ args w,(callFunc gf args).run P w=.ok (.enter gf args) w) (R:World→Prop) (X:Code→World→Prop)
  (hit:∀ fn,Calls P gf (#[.func (.yield (w.heap.size+1)) #[] #[]] ++ lb) (loopW w (recOf fn a ps assign body w.heap.size .ready none)) fun e W=>(∃ v,e=.returned v) ∧
   ((W.heap[w.heap.size+1]?=some (.loop (recOf fn a ps assign body w.heap.size .ready none))∧R W)∨∃ c,W.heap[w.heap.size+1]?=some (.loop (recOf fn a ps assign body w.heap.size .done (some c)))∧X c W))
  (hR:∀ W o,R W→Q .normal { a with defers:={ target:=.collected w.heap.size,args:=#[] } :: a.defers } (W.putObj (w.heap.size+1) o))
  (hX:∀ c W o,X c W→c.wp P Q { a with defers:={ target:=.collected w.heap.size,args:=#[] } :: a.defers } (W.putObj (w.heap.size+1) o)) :
  (Code.rangeFunc g ps assign body).wp P Q a w:=by
 refine (wpIn_wide (n:=3)).1 (wpIn_rangeFunc ?_);intro fn _
 refine ⟨w.heap.size+1,[{ target:=.collected w.heap.size,args:=#[] }],loopW w (recOf fn a ps assign body w.heap.size .ready none),{ target:=.fn (.func gf) lb,args:=#[.func (.yield (w.heap.size+1)) #[] #[]] },loopW w (recOf fn a ps assign body w.heap.size .ready none),gf,
  #[.func (.yield (w.heap.size+1)) #[] #[]] ++ lb,loopW w (recOf fn a ps assign body w.heap.size .ready none),run_enterLoop_outer _ _ _ _ _,?_,fun _ _=>trivial,?_,fun h=>(by cases h),?_⟩
 ·simp only [resolve,hg]
  simp [go_sem]
 ·simp [invoke,go_sem,eg]
 ·refine callsIn_wide.2 ((hit fn).mono ?_)
  rintro e W ⟨⟨v,rfl⟩,h⟩
  rcases h with ⟨hl,h⟩ | ⟨c,hl,h⟩
  ·exact ⟨none,_,run_endLoop hl (by simp [recOf]),hR _ _ h⟩
  ·exact ⟨some c,_,run_endLoop hl (by simp [recOf]),wpIn_wide.2 (hX c _ _ h)⟩
def roundP (l:Nat) (busy:Loop) (K:World→Prop) (X:Code→World→Prop):Exit→Act→World→Prop
 | .normal,_,W=>W.heap[l]?=some (.loop busy)∧∀ o,K (W.putObj l o)
 | .ret,_,W=>W.heap[l]?=some (.loop busy)∧∀ o,X .ret (W.putObj l o)
 | .exit id,_,W=>W.heap[l]?=some (.loop busy)∧∀ o,X (.exit id) (W.putObj l o)
 | .goto t,_,W=>W.heap[l]?=some (.loop busy)∧∀ o,X (.goto t) (W.putObj l o)
 | .panic _,_,_=>False
 | .outgrown,_,_=>False
theorem yield_round {fn:FuncId} {a:Act} {ps:Array Tmp} {assign body:Code} {D l:Nat} {W:World} {xs:Array Value} (hps:ps.size=xs.size) (hl:W.heap[l]?=some (.loop (recOf fn a ps assign body D .ready none))) (K:World→Prop) (X:Code→World→Prop)
  (h:assign.wpIn (Fence.wide.inRound l) 3 P (Exit.then (fun a1 W1=>W1.heap[l]?=some (.loop (recOf fn a ps assign body D .ready none))∧body.wpIn (Fence.wide.inRound l) 3 P (roundP l (recOf fn a ps assign body D .busy none) K X) a1 (W1.putObj l (.loop (recOf fn a ps assign body D .busy none)))) (fun _ _ _=>False))
   { tmps:=(ps.zip xs).foldl (fun t (p,v)=>t.setIfInBounds p v) a.tmps,defers:=[] } W) :
  ∃ fn' tmps' assign' body',(Instr.yield l xs).run P W=.ok (.round l fn' tmps' assign' body') W∧RoundIn Fence.wide 3 P l fn' tmps' assign' body' W fun e W' =>
   (e=.returned (.bool true)∧W'.heap[l]?=some (.loop (recOf fn a ps assign body D .ready none))∧K W')∨(e=.returned (.bool false)∧∃ c,W'.heap[l]?=some (.loop (recOf fn a ps assign body D .done (some c)))∧X c W'):=by
 refine ⟨fn,_,assign,body,run_yield hl (by simp [recOf,hps]),roundIn_of_wpIn trivial (wpIn_mono h ?_)⟩
 intro e a1 W1 hq
 cases e with
 | normal =>
  obtain ⟨h1,h2⟩:=hq;refine ⟨_,run_beginRound h1 rfl,wpIn_mono h2 ?_⟩;intro e2 a2 W2 hq2;have lt:∀ {r:Loop},W2.heap[l]?=some (.loop r)→l<W2.heap.size:=fun q=>(Array.getElem?_eq_some_iff.1 q).1
  cases e2 with
  | normal=>obtain ⟨h3,h4⟩:=hq2;exact ⟨_,_,run_endRound none h3,Or.inl ⟨rfl,World.putObj_heap_same (lt h3),h4 _⟩⟩
  | ret=>obtain ⟨h3,h4⟩:=hq2;exact ⟨_,_,run_endRound (some .ret) h3,Or.inr ⟨rfl,_,World.putObj_heap_same (lt h3),h4 _⟩⟩
  | exit id=>obtain ⟨h3,h4⟩:=hq2;exact ⟨_,_,run_endRound (some (.exit id)) h3,Or.inr ⟨rfl,_,World.putObj_heap_same (lt h3),h4 _⟩⟩
  | goto t=>obtain ⟨h3,h4⟩:=hq2;exact ⟨_,_,run_endRound (some (.goto t)) h3,Or.inr ⟨rfl,_,World.putObj_heap_same (lt h3),h4 _⟩⟩
  | panic c=>exact hq2.elim
  | outgrown=>exact hq2.elim
 | exit id=>exact hq.elim
 | goto id=>exact hq.elim
 | ret=>exact hq.elim
 | panic c=>exact hq.elim
 | outgrown=>exact hq.elim
end Go.Proofs.YthdengocipfgiaaGreat.W
namespace Go.Proofs.YthdengocipfgiaaGreat.W.C
open Go.RowKit Go.Proofs.YthdengocipfgiaaGreat.W
structure Iv (I:St→Prop):Prop where
 bd:∀ s,I s→Bd s
 put:∀ s i b,I s→s.bx i=some b→b.q≠.dead→(∃ p,s.pl.a b.ho=some p)∧∃ g,s.fu.a b.fn=some g
 ca:∀ s x p i v,I s→s.pl.a x=some p→p.ca i=some v→∃ b,s.bx i=some b∧b.q≠.dead∧b.ho=x∧(p.bo.a i).isSome=true∧v.2.2=i∧0<v.2.1
 ev:∀ s x p i v,I s→s.pl.a x=some p→Lst p i v→upB s.H x=true→Bd (s.setP x (evictP p i v (s.B i).me))∧I ((s.setP x (evictP p i v (s.B i).me)).kill i)
theorem k_ev {w:World} {own:Nat→Option Tag} {y:Lay} {s:St} (h:Cor w own y s) (B:Bd s) {x:Int} {p:Pl} (ep:s.pl.a x=some p) :
  Calls Tryz.prog 162 #[ptr (y.pc x)] w fun e w'=>∃ (i:Int) (b:Bool),e=.returned (.tuple #[.int .i64 i,.bool b]) ∧
   ((b=false∧p.cn=0∧To w own y s w')∨(b=true∧0<p.cn∧∃ v,Lst p i v∧To w own y (s.setP x { p with cl:=max p.cl (v.1 / v.2.1),cn:=p.cn-1,ca:=updZ p.ca i none }) w')):=by
 rcases Nat.eq_zero_or_pos p.cn with h0 | h0
 ·refine (k_wevict0 h ep h0).mono ?_
  rintro e w' ⟨rfl,h1⟩;exact ⟨0,false,rfl,Or.inl ⟨rfl,h0,h1⟩⟩
 ·refine (k_wevict h ep h0 (by have:=B.pl _ _ ep;omega)).mono ?_
  rintro e w' ⟨i,v,rfl,h1,h2⟩;exact ⟨i,true,rfl,Or.inr ⟨rfl,h0,v,h1,h2⟩⟩
theorem Lst.uniq {p:Pl} {i j:Int} {v u:HR.V} (h:Lst p i v) (k:Lst p j u) (hid:∀ i v,p.ca i=some v→v.2.2=i∧0<v.2.1):i=j∧v=u:=by
 have a:=h.2 j u k.1;have b:=k.2 i v h.1;obtain ⟨e1,e2⟩:=hid i v h.1;obtain ⟨e3,e4⟩:=hid j u k.1;unfold HR.lt at a b;simp at a b;have hij:i=j:=by omega
 subst hij;have:=h.1.symm.trans k.1
 cases this
 exact ⟨rfl,rfl⟩
theorem least_eq {p:Pl} {i:Int} {v:HR.V} (h:Lst p i v) (hid:∀ i v,p.ca i=some v→v.2.2=i∧0<v.2.1):least p=(i,v):=by
 have hx:∃ z:Int×HR.V,Lst p z.1 z.2:=⟨(i,v),h⟩;unfold least;rw [dif_pos hx];obtain ⟨a,b⟩:=Lst.uniq hx.choose_spec h hid;exact Prod.ext a b
theorem Cor.ids {w:World} {own:Nat→Option Tag} {y:Lay} {s:St} (h:Cor w own y s) {x:Int} {p:Pl} (ep:s.pl.a x=some p):∀ i v,p.ca i=some v→v.2.2=i∧0<v.2.1:=by
 intro i v hv;have:=(h.ob (.pc x) p ep).ids hv
 exact ⟨this.1,this.2.1.2.1⟩
theorem clear_step {s:St} {x mem:Int} {p:Pl} {n:Nat} {i:Int} {v:HR.V} (ep:s.pl.a x=some p) (hl:Lst p i v) (hid:∀ i v,p.ca i=some v→v.2.2=i∧0<v.2.1) :
  s.clear x mem (n+1)=if mem≤fr ((s.setP x (evictP p i v (s.B i).me)).kill i).H x then (s.setP x (evictP p i v (s.B i).me)).kill i else ((s.setP x (evictP p i v (s.B i).me)).kill i).clear x mem n:=by
 simp only [St.clear,St.P_of ep,least_eq hl hid]
theorem kill_pl {s:St} {x i:Int} {p:Pl} {b:Bo} (ep:s.pl.a x=some p) (e:s.bx i=some b) (hx:b.ho=x) (hu:upB s.H x=true):(s.kill i).pl.a x=some { dropP p i b.me with bo:=(dropP p i b.me).bo.del i }∧upB (s.kill i).H x=true:=by
 subst hx
 have hG:∀ s2:St,s2.bx i=some b→s2.pl.a b.ho=some (dropP p i b.me)→s2.H=s.H→((((s2.outOf i).die i).leave b.ho).pl.a b.ho=some { dropP p i b.me with bo:=(dropP p i b.me).bo.del i })∧upB (((s2.outOf i).die i).leave b.ho).H b.ho=true:=by
  intro s2 h1 h2 h3
  have hH:((s2.outOf i).die i).H=gvH s.H b.ho b.me:=by
   unfold St.die;rw [show (s2.outOf i).B i=b from St.B_of h1]
   show gvH s2.H b.ho b.me=_;rw [h3]
  have hup:upB (gvH s.H b.ho b.me) b.ho=true:=by
   unfold upB at hu
   cases q:s.H b.ho with
   | none=>rw [q] at hu;cases hu
   | some t =>
    obtain ⟨d,z,u⟩:=t;rw [q] at hu;have hd:d=false:=by simpa using hu
    subst hd;unfold gvH;rw [q];dsimp only
    split
    ·unfold upB lv;rw [updZ_same];rfl
    ·unfold upB;rw [q];rfl
  have hsome:(((s2.outOf i).die i).H b.ho).isSome=true:=by
   rw [hH];unfold upB at hup
   cases q:gvH s.H b.ho b.me b.ho with
   | none=>rw [q] at hup;cases hup
   | some t=>rfl
  unfold St.leave;rw [if_pos hsome];refine ⟨?_,by rw [hH];exact hup⟩
  show ((s2.outOf i).pl.a b.ho)=_;simp only [St.outOf,St.B_of h1,St.P_of h2];exact Tb.set_at _ _ _
 show ((s.gone i).pl.a b.ho=_)∧upB (s.gone i).H b.ho=true;unfold St.gone;rw [St.B_of e];have hh:(s.hold i).pl.a b.ho=some (dropP p i b.me):=by unfold St.hold;rw [St.B_of e,St.P_of ep];exact setP_at _ _ _
 dsimp only
 cases hr:b.q.runs with
 | true=>exact hG _ e hh rfl
 | false=>exact hG _ e hh rfl
structure Nl (l:Nat) (w:World) (own:Nat→Option Tag) (w':World) (own':Nat→Option Tag):Prop where
 only:Only w w' (fun j=>own j≠none∨j=l)
 new:∀ j,own' j≠none→own j≠none∨w.heap.size≤j
theorem Nl.of (l:Nat) {w w':World} {o o':Nat→Option Tag} (h:Nx w o w' o'):Nl l w o w' o':=⟨h.only.mono (fun _ q=>Or.inl q),h.new⟩
theorem Nl.trans {l:Nat} {w w1 w2:World} {o o1 o2:Nat→Option Tag} (h:Nl l w o w1 o1) (k:Nx w1 o1 w2 o2):Nl l w o w2 o2 :=
 ⟨h.only.trans k.only (fun j q=>(h.new j q).imp Or.inl id),fun j q=>(k.new j q).elim (h.new j) (fun q=>Or.inr (by have:=h.only.size;omega))⟩
theorem Nl.drew {l:Nat} {w w1:World} {o o1:Nat→Option Tag} (h:Nl l w o w1 o1):Nl l w o w1.drew o1:=⟨h.only.drewN 1,h.new⟩
theorem Nl.drewN {l:Nat} {w w1:World} {o o1:Nat→Option Tag} (h:Nl l w o w1 o1) (m:Nat):Nl l w o (w1.drewN m) o1:=⟨h.only.drewN m,h.new⟩
theorem Nl.blk {l:Nat} {w w':World} {o o':Nat→Option Tag} (h:Nl l w o w' o') {x:Nat} {b:Obj} (hx:o x=none) (hl:x≠l) (hc:w.heap[x]?=some b):w'.heap[x]?=some b:=h.only.blk (fun q=>q.elim (fun q=>q hx) hl) hc
theorem Nl.none {l:Nat} {w w':World} {o o':Nat→Option Tag} (h:Nl l w o w' o') {x:Nat} (hx:o x=none) (hl:x<w.heap.size):o' x=none:=by
 cases q:o' x with
 | none=>rfl
 | some t =>
       rcases h.new x (by rw [q];simp) with e | e
       ·exact absurd hx e
       ·omega
theorem Nl.put {l:Nat} {w w1:World} {o o1:Nat→Option Tag} (h:Nl l w o w1 o1) (ob:Obj):Nl l w o (w1.putObj l ob) o1:=⟨h.only.trans (putObj_only w1 l ob) (fun j q=>Or.inl (Or.inr q)),h.new⟩
theorem Nx.transL {l:Nat} {w w1 w2:World} {o o1 o2:Nat→Option Tag} (h:Nx w o w1 o1) (k:Nl l w1 o1 w2 o2) (hl:w.heap.size≤l):Nx w o w2 o2 :=
 ⟨h.only.trans k.only (fun j q=>q.elim (h.new j) (fun q=>Or.inr (by omega))),fun j q=>(k.new j q).elim (h.new j) (fun q=>Or.inr (by have:=h.only.size;omega))⟩
def boxP (y:Lay) (x:Int):Obj:=.cells #[ptr (y.pb x)] 163 (0,0)
def EvRounds (I:St→Prop) (w:World) (own:Nat→Option Tag) (y:Lay) (x mem:Int) (l:Nat) (ready done:Loop):Prop :=
 ∀ (sk:St) (i:Int) (v:HR.V) (pk:Pl) (W:World) (oW:Nat→Option Tag),I sk→sk.pl.a x=some pk→upB sk.H x=true→Lst pk i v→Cor W oW y (sk.setP x (evictP pk i v (sk.B i).me))→Nl l w own W oW→W.heap[l]?=some (.loop ready)→oW l=none →
  ∃ fn' tmps' assign' body',(Instr.yield l #[ptr (y.bx i)]).run Tryz.prog W=.ok (.round l fn' tmps' assign' body') W∧RoundIn Fence.wide 3 Tryz.prog l fn' tmps' assign' body' W fun e W' =>
   (e=.returned (.bool true)∧W'.heap[l]?=some (.loop ready)∧¬ mem≤fr ((sk.setP x (evictP pk i v (sk.B i).me)).kill i).H x∧∃ o',Cor W' o' y ((sk.setP x (evictP pk i v (sk.B i).me)).kill i)∧Nl l w own W' o'∧o' l=none) ∨
   (e=.returned (.bool false)∧W'.heap[l]?=some (.loop done)∧mem≤fr ((sk.setP x (evictP pk i v (sk.B i).me)).kill i).H x∧∃ o',Cor W' o' y ((sk.setP x (evictP pk i v (sk.B i).me)).kill i)∧Nl l w own W' o'∧o' l=none)
theorem c_evict1 {I:St→Prop} (V:Iv I) {w:World} {own:Nat→Option Tag} {y:Lay} {s:St} (h:Cor w own y s) (hI:I s) (x mem:Int) {p:Pl} (ep:s.pl.a x=some p) (hu:upB s.H x=true) (l Bp:Nat) (ready done:Loop)
  (hBp:w.heap[Bp]?=some (boxP y x)) (hoB:own Bp=none) (hne:Bp≠l) (hl:w.heap[l]?=some (.loop ready)) (hol:own l=none) (hY:EvRounds I w own y x mem l ready done) :
  Calls Tryz.prog 161 #[.func (.yield l) #[] #[],ptr Bp] w fun e W=>(∃ v,e=.returned v)∧∃ o',Cor W o' y (s.clear x mem p.cn)∧Nl l w own W o'∧o' l=none∧(W.heap[l]?=some (.loop ready)∨W.heap[l]?=some (.loop done)):=by
 have B:=V.bd _ hI;have HBP:=Lib.hid hBp;have c0:=cell_of_row _ _ 0 _ _ _ hBp;have p1:=h.p1 ep;have hbl:=lt_of_row hBp;have hll:=lt_of_row hl;have HL:=Lib.hid hl;have HNE:=Lib.hid hne;clear hBp hl hne
 go_enter Tryz.func161,Tryz.ntmps161
 go_wp2_with fail
 with_reducible refine (k_ev h B ep).mono ?_
 rintro e w1 ⟨i,b,rfl,hev⟩;clear c0 p1;go_wp2_with fail
 go_loopg [3,4,5] p.cn (fun gk v3 v4 v5 wr=>∃ (sk:St) (pk:Pl) (ok:Nat→Option Tag) (i:Int) (b:Bool),v3=.int .i64 i∧v4=.bool b∧Hid (gk=pk.cn)∧Hid (I sk)∧Hid (sk.pl.a x=some pk)∧Hid (upB sk.H x=true)∧Hid (s.clear x mem p.cn=sk.clear x mem pk.cn)∧Hid (Nl l w own wr ok)∧Hid (ok l=none)∧Hid (ok Bp=none)∧Hid (wr.heap[l]?=some (.loop ready))∧Hid (wr.heap[Bp]?=some (boxP y x)) ∧
  ((b=false∧pk.cn=0∧Cor wr ok y sk)∨(b=true∧0<pk.cn∧∃ v,Lst pk i v∧Cor wr ok y (sk.setP x { pk with cl:=max pk.cl (v.1 / v.2.1),cn:=pk.cn-1,ca:=updZ pk.ca i none }))))
 case atStart =>
  rcases hev with ⟨rfl,h0,o1,h1,n1⟩ | ⟨rfl,h0,v,hv,o1,h1,n1⟩
  ·exact ⟨s,p,o1,i,false,rfl,rfl,Lib.hid rfl,Lib.hid hI,Lib.hid ep,Lib.hid hu,Lib.hid rfl,Lib.hid (Nl.of l n1),Lib.hid (n1.none hol hll),Lib.hid (n1.none hoB hbl),Lib.hid (n1.blk hol HL.out),Lib.hid (n1.blk hoB HBP.out),Or.inl ⟨rfl,h0,h1⟩⟩
  ·exact ⟨s,p,o1,i,true,rfl,rfl,Lib.hid rfl,Lib.hid hI,Lib.hid ep,Lib.hid hu,Lib.hid rfl,Lib.hid (Nl.of l n1),Lib.hid (n1.none hol hll),Lib.hid (n1.none hoB hbl),Lib.hid (n1.blk hol HL.out),Lib.hid (n1.blk hoB HBP.out),Or.inr ⟨rfl,h0,v,hv,h1⟩⟩
 case round =>
  clear hev;obtain ⟨sk,pk,ok,i,b,rfl,rfl,HGK,HI,HE,HU,HC,HN,HOL,HOB,HRL,HRB,hrel⟩:=hrel
  rcases hrel with ⟨rfl,h0,h1⟩ | ⟨rfl,h0,v,hv,h1⟩
  ·go_wp2
   go_end0
   refine ⟨⟨_,rfl⟩,ok,?_,HN.out,HOL.out,Or.inl HRL.out⟩;rw [HC.out,h0];exact h1
  ·obtain ⟨n,hn⟩:∃ n,pk.cn=n+1:=⟨pk.cn-1,by omega⟩
   have hid:∀ j u,pk.ca j=some u→u.2.2=j∧0<u.2.1:=fun j u hu=>by obtain ⟨_,_,_,_,_,q⟩:=V.ca sk x pk j u HI.out HE.out hu;exact q
   obtain ⟨b,hb,hbq,hbx,hbo,_⟩:=V.ca sk x pk i v HI.out HE.out hv.1;have hbi:=((V.bd _ HI.out).bx i b hb).1;have wfi:=((V.bd _ HI.out).wb hb).1;have hev:=V.ev sk x pk i v HI.out HE.out hv HU.out;rw [St.B_of hb] at hev;have hst:=clear_step (mem:=mem) (n:=n) HE.out hv hid;rw [St.B_of hb] at hst;have bp:=(V.bd _ HI.out).pl _ _ HE.out;have bb:=(V.bd _ HI.out).bx i b hb;have hwr:IntKind.i64.wrap (pk.sp-b.me)=pk.sp-b.me:=wrap_small (by omega) (by omega)
   have hev0:Lst pk i v∧True:=⟨hv,trivial⟩;have HBB:=Lib.hid hb;have HST:=Lib.hid hst;have HEV:=Lib.hid hev;have HV:=Lib.hid hv;have HNN:=Lib.hid hn;have HBX:=Lib.hid hbx;have HBI:=Lib.hid hbi;obtain ⟨s1,hs1⟩:∃ z:St,sk.setP x { pk with cl:=max pk.cl (v.1 / v.2.1),cn:=pk.cn-1,ca:=updZ pk.ca i none }=z:=⟨_,rfl⟩;rw [hs1] at h1;have e1:s1.pl.a x=some { pk with cl:=max pk.cl (v.1 / v.2.1),cn:=pk.cn-1,ca:=updZ pk.ca i none }:=by rw [←hs1];exact setP_at _ _ _
   have eb:s1.bx i=some b:=by rw [←hs1];exact hb
   have HS1:=Lib.hid hs1;clear hst hev hv hn hbx hbi hev0 bp bb hid hb hs1;have z0:=cell_of_row _ _ 0 _ _ _ HRB.out;have z1:=h1.p0 e1;have z2:=mp_run_at (h1.ob (.pm x) _ e1).2 Tryz.underlying3 Tryz.underlying57 (zeroBx wr) wfi
   have z3:(Option.map (fun _=>ptr (y.bx i)) (pk.bo.a i)).getD (Value.pointer none)=ptr (y.bx i):=by
    obtain ⟨u,hu⟩:=Option.isSome_iff_exists.1 hbo;rw [hu];rfl
   dsimp only at z2;rw [z3] at z2;clear z3 hbo;go_wp2_with fail
   have z4:=h1.p2 e1;have z5:=h1.b3 eb;dsimp only at z4
   go_still_tail 11,(by kernel_rfl)
   change wpList _ _ _ _ _ wr.drew;have h2:=h1.drew;have HN2:=Lib.hid (Nl.drew HN.out);have HRL2:Hid (wr.drew.heap[l]?=some (.loop ready)):=HRL;have HRB2:Hid (wr.drew.heap[Bp]?=some (boxP y x)):=HRB;clear z0 z1 z2 z4 z5 hwr h1 HN HRL HRB;generalize wr.drew=w2 at h2 HN2 HRL2 HRB2 ⊢;have hr:=((h2.ob (.pb x)) _ e1).2;refine wpList_store_in rfl 3 (.tmp 39) (.tmp 37) rfl (by kernel_rfl) (y.pb x) 2 rfl .i64 (pk.sp-b.me) rfl _ _ hr (by simp [prow]) ?_
   intro w3 m3 g3;obtain ⟨h3,n3⟩:=Cor.pb h2 e1 (x:=pk.sp-b.me) m3.out g3;rw [←HS1.out,setP_setP] at h3;have h3':Cor w3 (grow ok w2 w3 (.pb x)) y (sk.setP x (evictP pk i v (sk.B i).me)):=by rw [St.B_of HBB.out];exact h3
   have ho3:=n3.none HOL.out (lt_of_row HRL2.out);obtain ⟨fn',tmps',assign',body',hy,hR⟩:=hY sk i v pk w3 _ HI.out HE.out HU.out HV.out h3' (HN2.out.trans n3) (n3.blk HOL.out HRL2.out) ho3;have HOB3:=Lib.hid (n3.none HOB.out (lt_of_row HRB2.out));have HRB3:=Lib.hid (n3.blk HOB.out HRB2.out);clear hr m3 g3 h2 HN2 HRL2 HRB2 h3 h3' n3 e1 eb ho3;go_upto_region 5 with (fail)
   have hdrop:dropP (evictP pk i v b.me) i b.me=evictP pk i v b.me:=dropP_none (by unfold evictP;exact updZ_same _ _ _)
   obtain ⟨ep4,hu4⟩:=kill_pl (s:=sk.setP x (evictP pk i v b.me)) (p:=evictP pk i v b.me) (setP_at _ _ _) (show _=some b from HBB.out) HBX.out (show upB sk.H x=true from HU.out);rw [hdrop] at ep4;have hI4:=HEV.out.2;rw [St.B_of HBB.out] at hR;obtain ⟨s4,hs4⟩:∃ z:St,(sk.setP x (evictP pk i v b.me)).kill i=z:=⟨_,rfl⟩;have hst:=HST.out;rw [hs4] at ep4 hu4 hI4 hR hst;obtain ⟨p4,hp4⟩:∃ z:Pl,({ evictP pk i v b.me with bo:=(evictP pk i v b.me).bo.del i }:Pl)=z:=⟨_,rfl⟩;have hc4:p4.cn=n:=by rw [←hp4];show pk.cn-1=n;have:=HNN.out;omega
   rw [hp4] at ep4;have HC4:=Lib.hid hc4;have HI4:=Lib.hid hI4;have HE4:=Lib.hid ep4;have HU4:=Lib.hid hu4;have HST4:=Lib.hid hst;clear hc4 hI4 ep4 hu4 hst hdrop hs4 hp4;refine (wpIn_wide (n:=4)).1 ?_
   gi_wp2
   refine hR.mono ?_;rintro e w4 (⟨rfl,hl4,hfr,o4,h4,n4,ho4⟩ | ⟨rfl,hl4,hfr,o4,h4,n4,ho4⟩)
   ·have HFR:=Lib.hid hfr
    have HL4:=Lib.hid hl4;clear hfr hl4 hR hy;have hoB4:=n4.none hoB hbl;have hB4:=n4.blk hoB HNE.out HBP.out;have c0:=cell_of_row _ _ 0 _ _ _ hB4;have p1:=h4.p1 HE4.out
    gi_wp2
    go_wp2_with fail
    with_reducible refine (k_ev h4 (V.bd _ HI4.out) HE4.out).mono ?_
    rintro e w5 ⟨i5,b5,rfl,hev⟩;clear c0 p1;go_wp2_with fail
    go_roundg n
    case measure=>have:=HGK.out;have:=HNN.out;omega
    case rel =>
     have hfin:s.clear x mem p.cn=s4.clear x mem p4.cn:=by rw [HC.out,HNN.out,HST4.out,if_neg (by have:=HFR.out;omega),HC4.out]
     rcases hev with ⟨rfl,h0,o5,h5,n5⟩ | ⟨rfl,h0,v5,hv5,o5,h5,n5⟩
     ·exact ⟨s4,p4,o5,i5,false,rfl,rfl,Lib.hid HC4.out.symm,HI4,HE4,HU4,Lib.hid hfin,Lib.hid (n4.trans n5),Lib.hid (n5.none ho4 (lt_of_row HL4.out)),Lib.hid (n5.none hoB4 (lt_of_row hB4)),Lib.hid (n5.blk ho4 HL4.out),Lib.hid (n5.blk hoB4 hB4),Or.inl ⟨rfl,h0,h5⟩⟩
     ·exact ⟨s4,p4,o5,i5,true,rfl,rfl,Lib.hid HC4.out.symm,HI4,HE4,HU4,Lib.hid hfin,Lib.hid (n4.trans n5),Lib.hid (n5.none ho4 (lt_of_row HL4.out)),Lib.hid (n5.none hoB4 (lt_of_row hB4)),Lib.hid (n5.blk ho4 HL4.out),Lib.hid (n5.blk hoB4 hB4),Or.inr ⟨rfl,h0,v5,hv5,h5⟩⟩
   ·have HFR:=Lib.hid hfr
    clear hfr hR hy
    gi_wp2
    go_wp2_with fail
    (try simp only [Exit.inBlock,Exit.then]);refine bodyPost_ret (results_none rfl _ _ _) rfl ?_
    refine ⟨⟨_,rfl⟩,o4,?_,n4,ho4,Or.inr hl4⟩;rw [HC.out,HNN.out,HST4.out,if_pos HFR.out];exact h4
end Go.Proofs.YthdengocipfgiaaGreat.W.C
namespace Go.Proofs.YthdengocipfgiaaGreat.W.C
open Go.RowKit Go.Proofs.YthdengocipfgiaaGreat.W
attribute [local go_sem] Oper.semAt_some
theorem c_evictF {w:World} (b:Nat):Calls Tryz.prog 146 #[ptr b] w fun e w'=>e=.returned (.func (.func 161) #[] #[ptr w.heap.size])∧w'=w.alloc (.cells #[ptr b] 163):=by
 go_enter Tryz.func146,Tryz.ntmps146
 go_wp2
 go_ret
 exact ⟨rfl,rfl⟩
theorem Nx.side {w w1 w2:World} {o o1:Nat→Option Tag} (h:Nx w o w1 o1) {S:Nat→Prop} (ho:Only w1 w2 S) (hS:∀ j,S j→w.heap.size≤j):Nx w o w2 o1:=⟨h.only.trans ho (fun j q=>Or.inr (hS j q)),h.new⟩
theorem three (w:World) (A B C:Obj):(((w.alloc A).alloc B).alloc C).heap[w.heap.size]?=some A∧(((w.alloc A).alloc B).alloc C).heap[w.heap.size+1]?=some B∧(((w.alloc A).alloc B).alloc C).heap[w.heap.size+2]?=some C∧Below w.heap.size w (((w.alloc A).alloc B).alloc C)∧(((w.alloc A).alloc B).alloc C).heap.size=w.heap.size+3:=by
 have s1:(w.alloc A).heap.size=w.heap.size+1:=World.size_alloc _ _;have s2:((w.alloc A).alloc B).heap.size=w.heap.size+2:=by rw [World.size_alloc,s1]
 have b2:Below (w.alloc A).heap.size (w.alloc A) ((w.alloc A).alloc B):=(Below.refl _ _).alloc (Nat.le_refl _) _;have b3:Below ((w.alloc A).alloc B).heap.size ((w.alloc A).alloc B) (((w.alloc A).alloc B).alloc C):=(Below.refl _ _).alloc (Nat.le_refl _) _;have b1:Below w.heap.size w (w.alloc A):=(Below.refl _ _).alloc (Nat.le_refl _) _;have h2:=heap_alloc_new (w.alloc A) B;rw [s1] at h2;have h3:=heap_alloc_new ((w.alloc A).alloc B) C;rw [s2] at h3;exact ⟨by rw [b3.block _ (by omega),b2.block _ (by omega)];exact heap_alloc_new w A,by rw [b3.block _ (by omega)];exact h2,h3,(b1.trans (b2.mono b1.size)).trans (b3.mono (by omega)),by rw [World.size_alloc,s2]⟩
theorem gen_put {F:Fence} {n:Nat} {P:Program} {body:Code} {Q:Exit→Act→World→Prop} {a:Act} {l:Nat} {W:World} {ob:Obj} {A:World→Prop} (hl:l<W.heap.size) (h:A (W.putObj l ob)) (k:∀ W8,A W8→W8.heap[l]?=some ob→body.wpIn F n P Q a W8):body.wpIn F n P Q a (W.putObj l ob):=k _ h (World.putObj_heap_same hl)
theorem gen_w {A:World→Prop} {I:St→Prop} {W:World} {own:Nat→Option Tag} {y:Lay} {x mem:Int} {l:Nat} {r d:Loop} (h:A W) (k:∀ W6,A W6→EvRounds I W6 own y x mem l r d):EvRounds I W own y x mem l r d:=k W h
theorem clear_hit {I:St→Prop} (V:Iv I) {w w5:World} {own:Nat→Option Tag} {y:Lay} {s:St} (h5:Cor w5 own y s) (N5:Nx w own w5 own) (hI:I s) (x mem:Int) {p:Pl} (ep:s.pl.a x=some p) (hu:upB s.H x=true) (Bp:Nat) (hP:w5.heap[Bp]?=some (boxP y x)) (hoP:own Bp=none) (fn:FuncId) (a:Act) (ps:Array Tmp) (assign body:Code)
    (hY:EvRounds I (loopW w5 (recOf fn a ps assign body w5.heap.size .ready none)) own y x mem (w5.heap.size+1) (recOf fn a ps assign body w5.heap.size .ready none) (recOf fn a ps assign body w5.heap.size .done (some .ret))) :
    Calls Tryz.prog 161 (#[.func (.yield (w5.heap.size+1)) #[] #[]] ++ #[ptr Bp]) (loopW w5 (recOf fn a ps assign body w5.heap.size .ready none)) fun e W=>(∃ v,e=.returned v) ∧
      (
       (W.heap[w5.heap.size+1]?=some (.loop (recOf fn a ps assign body w5.heap.size .ready none))∧∃ o',Cor W o' y (s.clear x mem p.cn)∧Nx w own W o'∧o' (w5.heap.size+1)=none∧W.heap[w5.heap.size]?=some (.deferred (some []))∧o' w5.heap.size=none) ∨
       ∃ c,W.heap[w5.heap.size+1]?=some (.loop (recOf fn a ps assign body w5.heap.size .done (some c)))∧c=.ret∧∃ o',Cor W o' y (s.clear x mem p.cn)∧Nx w own W o'∧o' (w5.heap.size+1)=none∧W.heap[w5.heap.size]?=some (.deferred (some []))∧o' w5.heap.size=none):=by
  refine Calls.mono (c_evict1 V (h5.below (loopW_below _ _)) hI x mem ep hu (w5.heap.size+1) Bp _ _ (Only.blk (Only.of_below (S:=fun _=>False) (loopW_below _ _)) (fun q=>q) hP) hoP (by have:=lt_of_row hP;omega) (loopW_rec _ _) (h5.fresh (by omega)) hY) ?_
  rintro e W ⟨hv,o',h',n',ho',hl'⟩;have hd0:=n'.blk (h5.fresh (Nat.le_refl w5.heap.size)) (by omega) (loopW_def _ _)
  have hd1:=n'.none (h5.fresh (Nat.le_refl w5.heap.size)) (by rw [loopW_size];omega)
  have N':=(N5.trans (Nx.below own (loopW_below _ _))).transL n' (by have:=N5.only.size;omega)
  rcases hl' with hl' | hl'
  · exact ⟨hv,Or.inl ⟨hl',o',h',N',ho',hd0,hd1⟩⟩
  · exact ⟨hv,Or.inr ⟨_,hl',rfl,o',h',N',ho',hd0,hd1⟩⟩
theorem c_clear {I:St→Prop} (V:Iv I) {w:World} {own:Nat→Option Tag} {y:Lay} {s:St} (h:Cor w own y s) (hI:I s) (x mem:Int) {p:Pl} (ep:s.pl.a x=some p) (hu:upB s.H x=true) :
    Calls Tryz.prog 114 #[ptr y.c,.int .i64 x,.int .i64 mem] w fun e w'=>e=.returned (.tuple #[])∧To w own y (s.clear x mem p.cn) w':=by
  have B:=V.bd _ hI;have wp:=B.wp ep;refine (callsIn_wide (n:=3)).1 (callsIn_of_wp_marks Tryz.func114 rfl trivial (wpIn_wide.2 ?_) rfl);simp only [Tryz.ntmps114,List.size_toArray,List.length_cons,List.length_nil,Nat.reduceAdd,Nat.reduceSub,Array.replicate_succ,Array.replicate_zero,List.push_toArray,List.append_toArray,List.nil_append,List.cons_append];go_wp2_with fail
  obtain ⟨zA,zB,zC,zb,zs⟩:=three w (.cells #[ptr y.c] 24) (.cells #[.int .i64 x] 3) (.cells #[.int .i64 mem] 3);have h3:=h.below zb;have N3:=Nx.below own zb;have hf:=fun j (q:w.heap.size≤j)=>h.fresh q;generalize ((w.alloc (.cells #[ptr y.c] 24)).alloc (.cells #[.int .i64 x] 3)).alloc (.cells #[.int .i64 mem] 3)=w3 at zA zB zC zb zs h3 N3 ⊢;have HA:=Lib.hid zA;have HB:=Lib.hid zB;have HC:=Lib.hid zC;have HF:=Lib.hid (And.intro (hf w.heap.size (Nat.le_refl _)) (And.intro (hf (w.heap.size+1) (by omega)) (hf (w.heap.size+2) (by omega))))
  have HH:=Lib.hid h;clear zA zB zC hf h zb zs;obtain ⟨z,hz⟩:∃ z,w.heap.size=z:=⟨_,rfl⟩;rw [hz] at HA HB HC HF;rw [hz];have HZ:=Lib.hid hz;clear hz;have q0:=cell_of_row _ _ 0 _ _ _ HA.out;have q1:=cell_of_row _ _ 0 _ _ _ HB.out;have q2:=h3.c6;have q3:=fun j=>(h3.drewN j).lp ep wp;have q4:=h3.drew.lp ep wp;have q5:=h3.lp ep wp
  go_still_tail 6,(by kernel_rfl)
  change wpList _ _ _ _ _ w3.drew;have h4:=h3.drew;have N4:=N3.drew;have HA4:Hid (w3.drew.heap[z]?=_):=HA;have HB4:Hid (w3.drew.heap[z+1]?=_):=HB;have HC4:Hid (w3.drew.heap[z+2]?=_):=HC;clear q0 q1 q2 q3 q4 q5 h3 N3 HA HB HC;generalize w3.drew=w4 at h4 N4 HA4 HB4 HC4 ⊢;go_wp2_with fail
  with_reducible refine (c_evictF (y.pb x)).mono ?_
  rintro e w5 ⟨rfl,rfl⟩;have hb5:Below w4.heap.size w4 (w4.alloc (.cells #[ptr (y.pb x)] 163)):=(Below.refl _ _).alloc (Nat.le_refl _) _;have h5:=h4.below hb5;have N5:=N4.trans (Nx.below own hb5);have hP5:Hid ((w4.alloc (.cells #[ptr (y.pb x)] 163)).heap[w4.heap.size]?=some (boxP y x)):=Lib.hid (heap_alloc_new w4 _);have hoP:=h4.fresh (Nat.le_refl w4.heap.size);have HA5:=Lib.hid ((Only.of_below (S:=fun _=>False) hb5).blk (fun q=>q) HA4.out);have HB5:=Lib.hid ((Only.of_below (S:=fun _=>False) hb5).blk (fun q=>q) HB4.out);have HC5:=Lib.hid ((Only.of_below (S:=fun _=>False) hb5).blk (fun q=>q) HC4.out);clear hb5 HA4 HB4 HC4 h4 N4;generalize w4.alloc (.cells #[ptr (y.pb x)] 163)=w5 at h5 N5 hP5 HA5 HB5 HC5 ⊢;generalize w4.heap.size=Bp at hP5 hoP ⊢;go_wp2_with fail
  refine range_func rfl (enters_of Tryz.func161 (by kernel_rfl) rfl) (fun W=>∃ o',Cor W o' y (s.clear x mem p.cn)∧Nx w own W o'∧o' (w5.heap.size+1)=none∧W.heap[w5.heap.size]?=some (.deferred (some []))∧o' w5.heap.size=none) (fun c W=>c=.ret∧∃ o',Cor W o' y (s.clear x mem p.cn)∧Nx w own W o'∧o' (w5.heap.size+1)=none∧W.heap[w5.heap.size]?=some (.deferred (some []))∧o' w5.heap.size=none) ?hit ?hR ?hX
  case hit =>
    intro fn;refine clear_hit V h5 N5 hI x mem ep hu Bp hP5.out hoP fn _ _ _ _ ?hY
    case hY =>
      refine gen_w (A:=fun W6=>Hid (W6.heap[z]?=some (.cells #[ptr y.c] 24 (0,0)))∧Hid (W6.heap[z+1]?=some (.cells #[.int .i64 x] 3 (0,0)))∧Hid (W6.heap[z+2]?=some (.cells #[.int .i64 mem] 3 (0,0)))) ⟨Lib.hid (Only.blk (Only.of_below (S:=fun _=>False) (loopW_below w5 _)) (fun q=>q) HA5.out),Lib.hid (Only.blk (Only.of_below (S:=fun _=>False) (loopW_below w5 _)) (fun q=>q) HB5.out),Lib.hid (Only.blk (Only.of_below (S:=fun _=>False) (loopW_below w5 _)) (fun q=>q) HC5.out)⟩ ?_;rintro W6 ⟨HA6,HB6,HC6⟩;intro sk i v pk W oW hIk hpk huk hv hC hN hrl hol;have HLN:=Lib.hid (show z≠w5.heap.size+1∧z+1≠w5.heap.size+1∧z+2≠w5.heap.size+1 from by have:=lt_of_row HA5.out;have:=lt_of_row HB5.out;have:=lt_of_row HC5.out;omega)
      generalize w5.heap.size+1=l at hrl hol hN HLN ⊢;obtain ⟨b,hb,hbq,hbx,_,_⟩:=V.ca sk x pk i v hIk hpk hv.1;obtain ⟨_,g,hg⟩:=V.put sk i b hIk hb hbq;have hev:=V.ev sk x pk i v hIk hpk hv huk;rw [St.B_of hb] at hev hC ⊢;have ep7:(sk.setP x (evictP pk i v b.me)).pl.a b.ho=some (evictP pk i v b.me):=by rw [hbx];exact setP_at _ _ _
      obtain ⟨s7,hs7⟩:∃ z:St,sk.setP x (evictP pk i v b.me)=z:=⟨_,rfl⟩;have eb7:s7.bx i=some b:=by rw [←hs7];exact hb
      have eg7:s7.fu.a b.fn=some g:=by rw [←hs7];exact hg
      rw [hs7] at hev hC ep7 ⊢;have HEV:=Lib.hid hev;have HA7:=Lib.hid (hN.blk HF.out.1 HLN.out.1 HA6.out);have HB7:=Lib.hid (hN.blk HF.out.2.1 HLN.out.2.1 HB6.out);have HC7:=Lib.hid (hN.blk HF.out.2.2 HLN.out.2.2 HC6.out);have HO7:=Lib.hid (And.intro (hN.none HF.out.1 (lt_of_row HA6.out)) (And.intro (hN.none HF.out.2.1 (lt_of_row HB6.out)) (hN.none HF.out.2.2 (lt_of_row HC6.out))));have HEB:=Lib.hid eb7;have HEG:=Lib.hid eg7;have HEP:=Lib.hid ep7;have HRL:=Lib.hid hrl;have HHL:=Lib.hid hol;have HNN:=Lib.hid hN;have HCC:=Lib.hid hC
      obtain ⟨fn',t',a',b',hy,hR⟩:=yield_round (P:=Tryz.prog) (xs:=#[ptr (y.bx i)]) rfl hrl (fun W'=>¬ mem≤fr (s7.kill i).H x∧∃ o',Cor W' o' y (s7.kill i)∧Nl l W6 own W' o'∧o' l=none) (fun c W'=>c=.ret∧mem≤fr (s7.kill i).H x∧∃ o',Cor W' o' y (s7.kill i)∧Nl l W6 own W' o'∧o' l=none) (by
        clear hb hbq hbx hg hev hC hN hrl hol eb7 eg7 ep7 hs7 hIk hpk huk hv
        gi_wp2
        refine ⟨HRL.out,?_⟩;refine gen_put (A:=fun W8=>Cor W8 oW y s7∧Nl l W6 own W8 oW∧Hid (W8.heap[z]?=some (.cells #[ptr y.c] 24 (0,0)))∧Hid (W8.heap[z+1]?=some (.cells #[.int .i64 x] 3 (0,0)))∧Hid (W8.heap[z+2]?=some (.cells #[.int .i64 mem] 3 (0,0)))) (lt_of_row HRL.out) ⟨HCC.out.side (putObj_only W l _) (fun j q=>by rw [q];exact HHL.out),HNN.out.put _,Lib.hid ((World.putObj_heap_other HLN.out.1).trans HA7.out),Lib.hid ((World.putObj_heap_other HLN.out.2.1).trans HB7.out),Lib.hid ((World.putObj_heap_other HLN.out.2.2).trans HC7.out)⟩ ?_
        rintro W8 ⟨h8,N8,HA8,HB8,HC8⟩ hob;have HOB8:=Lib.hid hob;have q0:=cell_of_row _ _ 0 _ _ _ HA8.out;clear hob
        gi_wp2_with (refine ⟨trivial,?_⟩;gi_at_call 86;refine (CallsIn.inRound l (callsIn_wide.2 (c_kill h8 HEV.out.1 HEB.out HEP.out HEG.out))).mono ?_;rintro e W9 ⟨rfl,o9,h9,n9⟩)
        have HA9:=Lib.hid (n9.blk HO7.out.1 HA8.out);have HB9:=Lib.hid (n9.blk HO7.out.2.1 HB8.out);have HC9:=Lib.hid (n9.blk HO7.out.2.2 HC8.out);have HOB9:=Lib.hid (n9.blk HHL.out HOB8.out);have HOL9:=Lib.hid (n9.none HHL.out (lt_of_row HOB8.out));have N9:=N8.trans n9;clear q0 N8 n9 h8 HA8 HB8 HC8 HOB8;obtain ⟨fv,hfv⟩:∃ fv,fr (s7.kill i).H x=fv:=⟨_,rfl⟩;have q0:=cell_of_row _ _ 0 _ _ _ HA9.out;have q1:=cell_of_row _ _ 0 _ _ _ HB9.out;have q2:=cell_of_row _ _ 0 _ _ _ HC9.out;have q3:W9.cell? ⟨z+1+1,0,none⟩=some (.int .i64 mem):=q2;have q4:=h9.c5;have hmix:Tryz.prog.follows .mixedOrders=true:=by kernel_rfl
        have kf:=fun j=>k_free (h9.drewN j) x;rw [hfv] at kf;have KF:=Lib.hid kf;have HFV:=Lib.hid hfv;clear kf hfv
        by_cases hm:mem≤fv
        · have d:decide (mem≤fv)=true:=decide_eq_true hm
          have HM:=Lib.hid hm;clear hm
          gi_region_with_o (refine ⟨trivial,?_⟩;gi_at_call 20;refine (CallsIn.inRound l (callsIn_wide.2 (KF.out 1))).mono ?_;rintro e W10 ⟨rfl,m,rfl⟩)
          all_goals
            (
             gi_wp2
             exact ⟨HOB9.out,fun o=>⟨rfl,by rw [HFV.out];exact HM.out,o9,(h9.drewN _).side (putObj_only _ l o) (fun j q=>by rw [q];exact HOL9.out),(N9.drewN _).put o,HOL9.out⟩⟩)
        · have d:decide (mem≤fv)=false:=dec_f hm
          have HM:=Lib.hid hm;clear hm
          gi_region_with_o (refine ⟨trivial,?_⟩;gi_at_call 20;refine (CallsIn.inRound l (callsIn_wide.2 (KF.out 1))).mono ?_;rintro e W10 ⟨rfl,m,rfl⟩)
          all_goals
            (
             gi_wp2
             exact ⟨HOB9.out,fun o=>⟨by rw [HFV.out];have:=HM.out;omega,o9,(h9.drewN _).side (putObj_only _ l o) (fun j q=>by rw [q];exact HOL9.out),(N9.drewN _).put o,HOL9.out⟩⟩))
      exact ⟨fn',t',a',b',hy,hR.mono (fun e W' q=>by
        rcases q with ⟨q1,q2,q3,q4⟩ | ⟨q1,c,q2,q3,q4,q5⟩
        · exact Or.inl ⟨q1,q2,q3,q4⟩
        · subst q3;exact Or.inr ⟨q1,q2,q4,q5⟩)⟩
  case hR =>
    rintro W o ⟨o',h',n',ho',hd',hod⟩;have hzw:w.heap.size≤w5.heap.size:=N5.only.size;have hd2:(W.putObj (w5.heap.size+1) o).heap[w5.heap.size]?=some (.deferred (some [])):=(World.putObj_heap_other (by omega)).trans hd'
    go_wp2
    refine ⟨by simp,.inl ⟨_,_,rfl,run_takeDeferred hd2,?_⟩⟩
    exact ⟨_,results_none rfl _ _ _,rfl,o',(h'.side (putObj_only _ _ _) (fun j q=>by rw [q];exact ho')).side (putObj_only _ _ _) (fun j q=>by rw [q];exact hod),(n'.side (putObj_only _ _ _) (fun j q=>by omega)).side (putObj_only _ _ _) (fun j q=>by omega)⟩
  case hX =>
    rintro c W o ⟨rfl,o',h',n',ho',hd',hod⟩;have hzw:w.heap.size≤w5.heap.size:=N5.only.size;have hd2:(W.putObj (w5.heap.size+1) o).heap[w5.heap.size]?=some (.deferred (some [])):=(World.putObj_heap_other (by omega)).trans hd'
    go_wp2
    refine ⟨by simp,.inl ⟨_,_,rfl,run_takeDeferred hd2,?_⟩⟩
    exact ⟨_,results_none rfl _ _ _,rfl,o',(h'.side (putObj_only _ _ _) (fun j q=>by rw [q];exact ho')).side (putObj_only _ _ _) (fun j q=>by rw [q];exact hod),(n'.side (putObj_only _ _ _) (fun j q=>by omega)).side (putObj_only _ _ _) (fun j q=>by omega)⟩
end Go.Proofs.YthdengocipfgiaaGreat.W.C
namespace Go.Proofs.YthdengocipfgiaaGreat.W.C
open Go.RowKit Go.Proofs.YthdengocipfgiaaGreat.W
theorem room_fit {s:St} {mem:Int} (h:(fit s.H mem).2=true):s.room mem=(s,some ((fit s.H mem).1:Int)):=by unfold St.room;rw [if_pos h]
theorem room_at {s:St} {mem:Int} {k:Nat} (h:(fit s.H mem).2=false) (hk:k<32) (hm:s.may (k:Int) mem=true) (hn:∀ j:Nat,j<k→s.may (j:Int) mem=false):s.room mem=(s.clear (k:Int) mem (s.P (k:Int)).cn,some (k:Int)):=by
 unfold St.room;rw [if_neg (by rw [h];simp),(List.find?_range_eq_some (n:=32) (i:=k)).2 ⟨hm,by simpa using hk,fun j hj=>by simp [hn j hj]⟩]
theorem room_no {s:St} {mem:Int} (h:(fit s.H mem).2=false) (hn:∀ j:Nat,j<32→s.may (j:Int) mem=false):s.room mem=(s,none):=by
 unfold St.room;rw [if_neg (by rw [h];simp),List.find?_range_eq_none.2 (fun j hj=>by simp [hn j hj])]
structure Iv2 (I:St→Prop):Prop extends Iv I where
 up:∀ s x,I s→upB s.H x=true→∃ p,s.pl.a x=some p
 fr:∀ s x,I s→0≤fr s.H x∧fr s.H x≤4096
theorem c_room {I:St→Prop} (V:Iv2 I) {w:World} {own:Nat→Option Tag} {y:Lay} {s:St} (h:Cor w own y s) (hI:I s) (mem:Int):Calls Tryz.prog 70 #[ptr y.c,.int .i64 mem] w fun e w'=>∃ (x:Int) (b:Bool),e=.returned (.tuple #[.int .i64 x,.bool b])∧(s.room mem).2=(if b then some x else none)∧To w own y (s.room mem).1 w':=by
 have N0:=Nx.refl w own;have h0:=h;clear h;have B:=V.bd _ hI;have q0:=h0.c5;have kf:=k_fit h0 mem
 cases hf:(fit s.H mem).2 with
 | true =>
  rw [hf] at kf;have KF:=Lib.hid kf;clear kf
  go_enter Tryz.func70,Tryz.ntmps70
  go_wp2_with fail
  with_reducible refine KF.out.mono ?_
  rintro e w1 ⟨rfl,m,rfl⟩
  go_wp2
  go_ret2
  refine ⟨_,_,rfl,?_,?_⟩
  ·rw [room_fit hf];rfl
  ·rw [room_fit hf];exact ⟨own,h0.drewN m,⟨N0.only.drewN m,N0.new⟩⟩
 | false =>
  rw [hf] at kf;have KF:=Lib.hid kf;have HFF:=Lib.hid hf;clear kf hf
  go_enter Tryz.func70,Tryz.ntmps70
  go_wp2_with fail
  with_reducible refine KF.out.mono ?_
  rintro e w1 ⟨rfl,m,rfl⟩;have h1:=h0.drewN m;have N1:Nx w own (w.drewN m) own:=⟨N0.only.drewN m,N0.new⟩;clear q0;generalize w.drewN m=w1 at h1 N1 ⊢;clear h0 N0 KF;go_wp2_with fail
  go_loopg [20] 32 (fun gk v20 wr=>∃ k:Nat,v20=.int .i64 (k:Int)∧Hid (gk+k=32)∧Hid (∀ j:Nat,j<k→s.may (j:Int) mem=false)∧Cor wr own y s∧Hid (Nx w own wr own))
  case atStart=>exact ⟨0,rfl,Lib.hid rfl,Lib.hid (fun j hj=>absurd hj (by omega)),h1,Lib.hid N1⟩
  case round =>
   clear h1 N1;obtain ⟨k,rfl,HG,HNO,hr,HN⟩:=hrel
   by_cases hk:k<32
   ·have hkI:(k:Int)<32:=by omega
    have HKK:=Lib.hid hk;have wk:(KL (k:Int)).wf=true:=wfK (by omega) (by omega)
    clear hk;have q0:=hr.c5;have ku:=quiet_eq (k_up hr (k:Int));have ku':∀ j,Calls Tryz.prog 113 #[ptr y.h,.int .i64 (k:Int)] (wr.drewN j) fun e w'=>e=.returned (.bool (upB s.H (k:Int)))∧w'=wr.drewN j:=fun j=>quiet_eq (k_up (hr.drewN j) (k:Int));have kv:∀ j,Calls Tryz.prog 20 #[ptr y.h,.int .i64 (k:Int)] (wr.drewN j) fun e w'=>e=.returned (.int .i64 (fr s.H (k:Int)))∧∃ m,w'=(wr.drewN j).drewN m:=fun j=>k_free (hr.drewN j) (k:Int)
    cases hup:upB s.H (k:Int) with
    | false =>
     rw [hup] at ku';have KU:=Lib.hid ku';have HUP:=Lib.hid hup;clear ku ku' kv hup;go_wp2_with fail
     go_quiet ((go_at_call 113;exact Calls.quiet_of_same (KU.out _)))
     go_wp2_with fail
     go_roundg (32-k-1)
     case measure=>have:=HG.out;omega
     case rel=>exact ⟨k+1,by rw [Int.natCast_add];rfl,Lib.hid (by have:=HG.out;have:=HKK.out;omega),Lib.hid (fun j hj=>by
      rcases Nat.lt_or_ge j k with q | q
      ·exact HNO.out j q
      ·obtain rfl:j=k:=by omega
       unfold St.may;rw [HUP.out];rfl),hr.drewN _,Lib.hid ⟨HN.out.only.drewN _,HN.out.new⟩⟩
    | true =>
     obtain ⟨p,hp⟩:=V.up s (k:Int) hI hup;have bp:=B.pl _ _ hp;have bfr:=V.fr s (k:Int) hI;rw [hup] at ku';obtain ⟨fv,hfv⟩:∃ fv,fr s.H (k:Int)=fv:=⟨_,rfl⟩;rw [hfv] at kv bfr;have hwr:IntKind.i64.wrap (fv+p.sp)=fv+p.sp:=wrap_small (by omega) (by omega)
     have hmay:s.may (k:Int) mem=decide (mem≤fv+p.sp):=by unfold St.may;rw [hup,hfv,St.P_of hp];rfl
     have KU:=Lib.hid ku';have KV:=Lib.hid kv;have HUP:=Lib.hid hup;have HMAY:=Lib.hid hmay;have HP:=Lib.hid hp;clear ku ku' kv hup hmay bp bfr hfv;have q1:=hr.c6;have q2:=fun j=>(hr.drewN j).lp hp wk;have q3:=hr.drew.lp hp wk;have q4:=hr.lp hp wk;have q5:=hr.p2 hp
     by_cases hm:mem≤fv+p.sp
     ·have d:decide (mem≤fv+p.sp)=true:=decide_eq_true hm
      have HM:=Lib.hid hm;clear hm hp;go_wp2_with fail
      go_quiet ((first | (go_at_call 113;exact Calls.quiet_of_same (KU.out _)) | (go_at_call 20;exact Calls.quiet_of (KV.out _))))
      clear q0 q1 q2 q3 q4 q5 hwr d;have hr2:=hr.drewN nq;have N2:=Lib.hid (show Nx w own (wr.drewN nq) own from ⟨HN.out.only.drewN _,HN.out.new⟩)
      clear hr HN;generalize wr.drewN nq=w2 at hr2 N2 ⊢;go_wp2_with fail
      with_reducible refine (c_clear V.toIv hr2 hI (k:Int) mem HP.out HUP.out).mono ?_
      rintro e w3 ⟨rfl,o3,h3,n3⟩;go_wp2_with fail
      go_ret2
      have hra:=room_at HFF.out HKK.out (by rw [HMAY.out];exact decide_eq_true HM.out) HNO.out
      rw [St.P_of HP.out] at hra;refine ⟨_,_,rfl,?_,?_⟩
      ·rw [hra];rfl
      ·rw [hra];exact ⟨o3,h3,N2.out.trans n3⟩
     ·have d:decide (mem≤fv+p.sp)=false:=dec_f hm
      have HM:=Lib.hid hm;clear hm hp;go_wp2_with fail
      go_quiet ((first | (go_at_call 113;exact Calls.quiet_of_same (KU.out _)) | (go_at_call 20;exact Calls.quiet_of (KV.out _))))
      clear q0 q1 q2 q3 q4 q5 hwr d;go_wp2_with fail
      go_roundg (32-k-1)
      case measure=>have:=HG.out;omega
      case rel=>exact ⟨k+1,by rw [Int.natCast_add];rfl,Lib.hid (by have:=HG.out;have:=HKK.out;omega),Lib.hid (fun j hj=>by
       rcases Nat.lt_or_ge j k with q | q
       ·exact HNO.out j q
       ·obtain rfl:j=k:=by omega
        rw [HMAY.out];exact dec_f (by have:=HM.out;omega)),hr.drewN _,Lib.hid ⟨HN.out.only.drewN _,HN.out.new⟩⟩
   ·have hk32:k=32:=by have:=HG.out;omega
    subst hk32;clear hk;go_wp2_with fail
    go_ret2
    have hra:=room_no HFF.out HNO.out;refine ⟨_,_,rfl,?_,?_⟩
    ·rw [hra];rfl
    ·rw [hra];exact ⟨own,hr,HN.out⟩
end Go.Proofs.YthdengocipfgiaaGreat.W.C
