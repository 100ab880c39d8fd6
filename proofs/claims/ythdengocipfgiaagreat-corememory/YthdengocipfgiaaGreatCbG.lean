import Derived.Test.YthdengocipfgiaaGreatCbF
import Derived.Test.YthdengocipfgiaaGreatCbD
import Derived.Lib.QuietBelow
import Derived.Deep.RegionHeld3
/- A part of what core's laws stand on. -/
set_option linter.unusedVariables false
set_option linter.unusedSimpArgs false
set_option maxRecDepth 100000
set_option maxHeartbeats 1600000
namespace Go.Proofs.YthdengocipfgiaaGreat.W.C
open Go.RowKit Go.Proofs.YthdengocipfgiaaGreat.W
attribute [local go_sem] Oper.semAt_some
theorem keep_c {w w3:World} {a:Addr} {v:Value} (h:w.cell? a=some v) (hb:Below w.drew.heap.size w.drew w3):w3.cell? a=some v:=by
 rw [World.cell?_of_block (hb.block _ (cell_lt h))];exact h
theorem keep_c2 {w w3:World} {o:Obj} {a:Addr} {v:Value} (h:w.cell? a=some v) (hb:Below (w.alloc o).drew.heap.size (w.alloc o).drew w3):w3.cell? a=some v:=by
 have h2:(w.alloc o).cell? a=some v:=by rw [World.cell?_of_block (((Below.refl _ w).alloc (Nat.le_refl _) o).block _ (cell_lt h))];exact h
 exact keep_c h2 hb
theorem keep_a {w:World} {a:Addr} {v:Value} (h:w.cell? a=some v) (o:Obj):(w.alloc o).drew.cell? a=some v:=keep_c2 (w3:=(w.alloc o).drew) h (Below.refl _ _)
theorem keep_b {w:World} {a:Addr} {v:Value} (h:w.cell? a=some v) (o:Obj):(w.alloc o).cell? a=some v:=keep_a h o
theorem new_o {w w3:World} {o:Obj} (hb:Below (w.alloc o).drew.heap.size (w.alloc o).drew w3):w3.heap[w.heap.size]?=some o:=by
 rw [hb.block _ (by show w.heap.size<(w.alloc o).heap.size;rw [World.size_alloc];omega)]
 exact World.alloc_heap_new w o
theorem new_c {w w3:World} {t:TypeId} (hb:Below (w.alloc (.cells #[.int .i64 0] t)).drew.heap.size (w.alloc (.cells #[.int .i64 0] t)).drew w3):w3.cell? ⟨w.heap.size,0,none⟩=some (.int .i64 0):=cell_of_row _ _ 0 _ _ _ (new_o hb)
theorem new_f {w w3:World} {t:TypeId} (hb:Below (w.alloc (.cells #[.int .i64 0] t)).drew.heap.size (w.alloc (.cells #[.int .i64 0] t)).drew w3):w3.frozen? ⟨w.heap.size,0,none⟩=false:=frozen_of_row _ _ _ _ _ (new_o hb)
theorem endA {w w3:World} {t:TypeId} {v:Value} (hb:Below w.drew.heap.size w.drew w3):(w3.alloc (.cells #[v] t)).heap[w3.heap.size]?=some (.cells #[v] t (0,0))∧w.heap.size≤w3.heap.size∧Below w.heap.size w (w3.alloc (.cells #[v] t)):=by
 have hb':Below w.heap.size w w3:=⟨hb.os,hb.tape,hb.output,hb.size,hb.block⟩;exact ⟨World.alloc_heap_new _ _,hb.size,hb'.alloc hb'.size _⟩
theorem endC {w w3:World} {t e:TypeId} {v:Value} {G n c:Nat} {vs:List Value} (hb:Below w.drew.heap.size w.drew w3) (ho:w3.ownsRow w.drew.heap.size e 1 (.slice (some ⟨G,0,none⟩) n c) n vs):(w3.alloc (.cells #[v] t)).heap[w3.heap.size]?=some (.cells #[v] t (0,0))∧(w3.alloc (.cells #[v] t)).ownsRow w.heap.size e 1 (.slice (some ⟨G,0,none⟩) n c) n vs∧w.heap.size≤w3.heap.size∧Below w.heap.size w (w3.alloc (.cells #[v] t)):=by
 have hb':Below w.heap.size w w3:=⟨hb.os,hb.tape,hb.output,hb.size,hb.block⟩;exact ⟨World.alloc_heap_new _ _,own_below ho ((Below.refl _ w3).alloc (Nat.le_refl _) _) (Nat.le_refl _),hb.size,hb'.alloc hb'.size _⟩
theorem endB {w w3:World} {t:TypeId} {v:Value} (hb:Below (w.alloc (.cells #[.int .i64 0] t)).drew.heap.size (w.alloc (.cells #[.int .i64 0] t)).drew w3):(w3.setCell ⟨w.heap.size,0,none⟩ v).heap[w.heap.size]?=some (.cells #[v] t (0,0))∧w.heap.size≤w.heap.size∧Below w.heap.size w (w3.setCell ⟨w.heap.size,0,none⟩ v):=by
 have hn:=new_o hb;have hs:(w.alloc (.cells #[.int .i64 0] t)).heap.size≤w3.heap.size:=hb.size;have hb':Below (w.alloc (.cells #[.int .i64 0] t)).heap.size (w.alloc (.cells #[.int .i64 0] t)) w3:=⟨hb.os,hb.tape,hb.output,hb.size,hb.block⟩;have hb2:Below w.heap.size w w3:=((Below.refl _ w).alloc (Nat.le_refl _) _).trans (hb'.mono (by rw [World.size_alloc];omega))
 rw [Go.Sort.setCell_eq];refine ⟨?_,Nat.le_refl _,hb2.os,hb2.tape,hb2.output,?_,?_⟩
 ·show (w3.heap.modify w.heap.size _)[w.heap.size]?=_
  rw [Array.getElem?_modify,if_pos rfl,hn];rfl
 ·show w.heap.size≤(w3.heap.modify w.heap.size _).size
  simpa using hb2.size
 ·intro j hj
  show (w3.heap.modify w.heap.size _)[j]?=_;rw [Array.getElem?_modify,if_neg (by omega)]
  exact hb2.block j hj
theorem run_from {P:Program} {t e:TypeId} {i:TypeInfo} (ht:P.underlying t=some (.slice e)) (hi:P.info? e=some i) (hs:i.size=1) (A:Option Addr) (k c a:Nat) (kl:IntKind) (ha:a≤k) (hc:k≤c) (w:World):(Instr.slice t (.slice A k c) (some (.int kl (a:Int))) none none).run P w=.ok (.slice (if c=a then A else A.map (·.add a)) (k-a) (c-a)) w:=by
 have he:P.elem t=e:=by simp [Program.elem,ht]
 have ht':P.underlying t=some (.slice (P.elem t)):=by rw [he];exact ht
 rw [run_slice_l (P:=P) w t A k c ht' kl (a:Int) (by omega) (by omega),he]
 simp [sizeOf,typeInfo,hi,hs,sliced,Result.andThen]
theorem run_fromA {P:Program} {t e:TypeId} {i:TypeInfo} (ht:P.underlying t=some (.slice e)) (hi:P.info? e=some i) (hs:i.size=1) (G k c a:Nat) (kl:IntKind) (ha:a<k) (hc:k≤c) (w:World):(Instr.slice t (.slice (some ⟨G,0,none⟩) k c) (some (.int kl (a:Int))) none none).run P w=.ok (.slice (some ⟨G,a,none⟩) (k-a) (c-a)) w:=by
 rw [run_from ht hi hs _ k c a kl (Nat.le_of_lt ha) hc,if_neg (by omega)]
 have e:(some (⟨G,0,none⟩:Addr)).map (·.add a)=some ⟨G,a,none⟩:=by
  show some ((⟨G,0,none⟩:Addr).add a)=_;simp [Addr.add];omega
 rw [e]
theorem k_rising {w:World} {own:Nat→Option Tag} {y:Lay} {s:St} (h:Cor w own y s) (B:Bd s) {f:Int} {g:Fu} (eg:s.fu.a f=some g) (hbx:∀ i,(g.pi.a i).isSome=true→∃ b,s.bx i=some b):Calls Tryz.prog 19 #[.map (some (y.fp f))] w fun e w'=>∃ G c,e=.returned (.slice (some ⟨G,0,none⟩) (ups g.pi s.last).length c)∧w'.ownsRow w.heap.size 45 1 (.slice (some ⟨G,0,none⟩) (ups g.pi s.last).length c) (ups g.pi s.last).length ((ups g.pi s.last).map (fun i=>ptr (y.bx i)))∧Below w.heap.size w w' :=
 c_rising w (y.fp f) g.pi.n (fun i=>(g.pi.a i).isSome) y.bx (fun i=>(g.pi.a i).map (fun _=>ptr (y.bx i))) _ ((h.ob (.fp f)) g eg).2 (fun i=>by cases g.pi.a i <;> simp) (by have:=B.fu _ _ eg;omega)
  (fun i q=>by
   obtain ⟨b,hb⟩:=hbx i q;have k:=h.b0 hb;rw [(B.bx i b hb).1] at k;exact k)
  (ups_pw _ _)
  (fun i=>by
   rw [mem_ups]
   constructor
   ·exact fun q=>q.2.2
   ·intro q
    obtain ⟨b,hb⟩:=hbx i q;have k:=B.bx i b hb;exact ⟨k.2.1,k.2.2.1,q⟩)
  (fun i q=>by
   obtain ⟨b,hb⟩:=hbx i q;have k:=B.bx i b hb;have:=B.last
   exact wfK (by omega) (by omega))
theorem c_windowB {w:World} {own:Nat→Option Tag} {y:Lay} {s:St} (h:Cor w own y s) {f:Int} {g:Fu} (eg:s.fu.a f=some g):Calls Tryz.prog 131 #[ptr (y.fb f)] w fun e w'=>e=.returned (Win g.win.1 g.win.2.1 g.win.2.2)∧Below w.heap.size w w':=by
 have N0:=Nx.refl w own;have h0:=h
 go_enter Tryz.func131,Tryz.ntmps131
 go_wp2_with fail
 have h1:=h0.alloc (.cells #[.int .i64 0,.int .i64 0,.int .i64 0] 200);have HW:=newW w;generalize w.alloc (.cells #[.int .i64 0,.int .i64 0,.int .i64 0] 200)=w1 at h1 HW ⊢;have HB:=Lib.hid HW;clear HW N0 h0;have q0:=h1.g8 eg;have q1:=h1.g9 eg
 go_still_tail 8,(by kernel_rfl)
 change wpList _ _ _ _ _ w1.drew;have h2:=h1.drew;have HB2:=Lib.hid (HB.out.drewN 1);clear q0 q1;change Hid (NewW w w1.drew) at HB2;generalize w1.drew=w2 at h2 HB2 ⊢;clear h1 HB;go_wp2_with fail
 refine (of_any _ _ _ _ _ _ (h2.ob (.fh f) g eg).2 (h2.ob (.fr f) g eg).2).mono ?_;rintro e w3 ⟨rfl,hb3⟩;have HB3:=Lib.hid (HB2.out.below hb3);rw [win_eq];obtain ⟨h',p',q',hwin⟩:∃ a b c,(a,b,c)=winN g.F g.o g.ys:=⟨_,_,_,rfl⟩;have HGW:=Lib.hid (show g.win=(h',p',q') from hwin.symm)
 rw [←hwin];dsimp only;clear hwin h2;have HC3:=Lib.hid HB3.out.1;go_wp2_with (with_reducible refine wpList_store_win rfl (.tmp 2) (.tmp 11) rfl w.heap.size h' p' q' rfl rfl 0 0 0 HC3 ?_;intro w4 HG4 hg4)
 (try simp only [Exit.inBlock,Exit.then]);refine bodyPost_ret (ret_win (fn:=Tryz.f131) rfl rfl HG4) rfl ⟨by rw [HGW.out],HB3.out.done hg4⟩
def BkRounds (W6:World) (own:Nat→Option Tag) (y:Lay) (l n:Nat) (S:Nat→St) (vv:Nat→Value) (ready:Loop):Prop :=
 ∀ (j:Nat) (W:World) (oW:Nat→Option Tag),j<n→Cor W oW y (S (j+1))→Nl l W6 own W oW→W.heap[l]?=some (.loop ready)→oW l=none →
  ∃ fn' tmps' assign' body',(Instr.yield l #[.int .i64 (j:Int),vv j]).run Tryz.prog W=.ok (.round l fn' tmps' assign' body') W∧RoundIn Fence.wide 3 Tryz.prog l fn' tmps' assign' body' W fun e W' =>
   e=.returned (.bool true)∧W'.heap[l]?=some (.loop ready)∧∃ o',Cor W' o' y (S j)∧Nl l W6 own W' o'∧o' l=none
theorem gen_b {A:World→Prop} {W:World} {own:Nat→Option Tag} {y:Lay} {l n:Nat} {S:Nat→St} {vv:Nat→Value} {r:Loop} (h:A W) (k:∀ W6,A W6→BkRounds W6 own y l n S vv r):BkRounds W own y l n S vv r:=k W h
theorem back_hit {y:Lay} {own:Nat→Option Tag} {w wc:World} {S:Nat→St} {Bp G k n cap:Nat} {o:Obj} {vv:Nat→Value} (h3:Cor wc own y (S n)) (N3:Nx w own wc own) (hn:n<4611686018427387904)
    (hB:wc.heap[Bp]?=some (.cells #[.slice (some ⟨G,k,none⟩) n cap] 73 (0,0))) (hoB:own Bp=none)
    (hG:wc.heap[G]?=some o) (hoG:own G=none) (hGc:∀ W:World,W.heap[G]?=some o→∀ i,i<n→W.cell? ⟨G,k+i,none⟩=some (vv i))
    (fn:FuncId) (a:Act) (ps:Array Tmp) (assign body:Code)
    (hY:BkRounds (loopW wc (recOf fn a ps assign body wc.heap.size .ready none)) own y (wc.heap.size+1) n S vv (recOf fn a ps assign body wc.heap.size .ready none)) :
    Calls Tryz.prog 163 (#[.func (.yield (wc.heap.size+1)) #[] #[]] ++ #[ptr Bp]) (loopW wc (recOf fn a ps assign body wc.heap.size .ready none)) fun e W=>(∃ v,e=.returned v) ∧
      (
       (W.heap[wc.heap.size+1]?=some (.loop (recOf fn a ps assign body wc.heap.size .ready none))∧∃ o',Cor W o' y (S 0)∧Nx w own W o'∧o' (wc.heap.size+1)=none∧W.heap[wc.heap.size]?=some (.deferred (some []))∧o' wc.heap.size=none) ∨
       ∃ c,W.heap[wc.heap.size+1]?=some (.loop (recOf fn a ps assign body wc.heap.size .done (some c)))∧False):=by
  have hBl:=lt_of_row hB;have hGl:G<wc.heap.size:=(Array.getElem?_eq_some_iff.1 hG).1;have hB6:=Only.blk (Only.of_below (S:=fun _=>False) (loopW_below wc (recOf fn a ps assign body wc.heap.size .ready none))) (fun q=>q) hB;have hG6:=Only.blk (Only.of_below (S:=fun _=>False) (loopW_below wc (recOf fn a ps assign body wc.heap.size .ready none))) (fun q=>q) hG;have hol:=h3.fresh (j:=wc.heap.size+1) (by omega)
  obtain ⟨r,hr⟩:∃ r,recOf fn a ps assign body wc.heap.size .ready none=r:=⟨_,rfl⟩;have hW6r:=loopW_rec wc r;have hW6d:=loopW_def wc r;have hW6b:=loopW_below wc r;have hW6s:=loopW_size wc r;rw [hr] at hY hB6 hG6 ⊢;obtain ⟨W6,hW6⟩:∃ W6,loopW wc r=W6:=⟨_,rfl⟩;rw [hW6] at hY hB6 hG6 hW6r hW6d hW6b hW6s ⊢;refine (c_back (l:=wc.heap.size+1) (g:=G) (off:=k) (n:=n) (cap:=cap) (vv:=vv) (fun j W=>W.heap[wc.heap.size+1]?=some (.loop r)∧∃ o',Cor W o' y (S j)∧Nl (wc.heap.size+1) W6 own W o'∧o' (wc.heap.size+1)=none) (fun _=>False) hn ?_ ?_ ⟨hW6r,own,h3.below hW6b,Nl.of _ (Nx.refl _ _),hol⟩).mono ?_
  · rintro j W ⟨_,o',_,hN,_⟩
    refine ⟨cell_of_row _ _ 0 _ _ _ (hN.blk hoB (by omega) hB6),fun i hi=>?_⟩
    exact hGc W (hN.blk hoG (by omega) hG6) i hi
  · rintro j W hj ⟨hrl,o',hC,hN,ho⟩
    obtain ⟨fn',t',a',b',hy,hR⟩:=hY j W o' hj hC hN hrl ho;exact ⟨fn',t',a',b',hy,hR.mono (fun e W' q=>Or.inl q)⟩
  · rintro e W ⟨hv,hk⟩
    refine ⟨hv,Or.inl ?_⟩
    rcases hk with ⟨hrl,o',hC,hN,ho⟩ | hx
    · refine ⟨hrl,o',hC,(N3.trans (Nx.below own hW6b)).transL hN (by have:=N3.only.size;omega),ho,hN.blk (h3.fresh (Nat.le_refl _)) (by omega) hW6d,hN.none (h3.fresh (Nat.le_refl _)) (by rw [hW6s];omega)⟩
    · exact hx.elim
theorem c_fewer {I:Nat→St→Prop} (V4:Iv4 I) {w:World} {own:Nat→Option Tag} {y:Lay} {s:St} (h:Cor w own y s) {f:Int} {gf:Fu} (eg:s.fu.a f=some gf) {K:Nat} (hI:I K s) (hlt:gf.keep<((ups gf.pi s.last).length:Int)) :
  Calls Tryz.prog 123 #[ptr y.c,ptr (y.fb f)] w fun e w'=>e=.returned (.tuple #[])∧To w own y (s.fewer f (s.now+gf.win.2.2) ((ups gf.pi s.last).drop gf.keep.toNat).reverse) w':=by
 have V:=V4.v;have B:=(V.v _).bd _ hI;have hi0:=infoBP
 cases hi:Tryz.prog.info? 45 with
 | none=>rw [hi] at hi0;cases hi0
 | some i0 =>
 rw [hi] at hi0;simp only [Option.map_some,Option.some.injEq,Prod.mk.injEq] at hi0;obtain ⟨hz0,hz1,hz2⟩:=hi0;obtain ⟨wh,hwh⟩:∃ wh,gf.win.1=wh:=⟨_,rfl⟩;obtain ⟨wp,hwp⟩:∃ wp,gf.win.2.1=wp:=⟨_,rfl⟩;obtain ⟨we,hwe⟩:∃ we,gf.win.2.2=we:=⟨_,rfl⟩;have kw:=fun (W:World) (hc:Cor W own y s)=>c_windowB hc eg;rw [hwh,hwp,hwe] at kw;rw [hwe];refine (callsIn_wide (n:=3)).1 (callsIn_of_wp_marks Tryz.func123 rfl trivial (wpIn_wide.2 ?_) rfl);simp only [Tryz.ntmps123,List.size_toArray,List.length_cons,List.length_nil,Nat.reduceAdd,Nat.reduceSub,Array.replicate_succ,Array.replicate_zero,List.push_toArray,List.append_toArray,List.nil_append,List.cons_append];go_wp2_with fail
 have hww:0<we∧we≤3298534883328:=by
  have t:=winN_ok gf.F gf.o gf.ys;have e:gf.win=winN gf.F gf.o gf.ys:=rfl;rw [←e,hwp,hwe] at t;omega
 have hnow:=B.now;have hwr:IntKind.i64.wrap (s.now+we)=s.now+we:=wrap_small (by omega) (by omega)
 have hfld:∀ W,(Instr.field 200 (.agg #[.int .i64 wh,.int .i64 wp,.int .i64 we]) 2).run Tryz.prog W=.ok (.int .i64 we) W:=by intro W;kernel_rfl
 simp only [Win] at kw;have z0:(w.alloc (.cells #[ptr y.c] 24)).cell? ⟨w.heap.size,0,none⟩=some (ptr y.c):=cell_of_row _ _ 0 _ _ _ (heap_alloc_new _ _);have b1:Below w.heap.size w (w.alloc (.cells #[ptr y.c] 24)):=(Below.refl _ _).alloc (Nat.le_refl _) _;have HZ0:=Lib.hid (heap_alloc_new w (.cells #[ptr y.c] 24));have h1:=h.below b1;have HH:=Lib.hid h;clear h;generalize w.alloc (.cells #[ptr y.c] 24)=w1 at z0 b1 h1 HZ0 ⊢;have q0:=h1.c0;have e0:=keep_a q0 (.cells #[.int .i64 0] 2);have ez:=keep_a z0 (.cells #[.int .i64 0] 2);have KW1:=Lib.hid (kw w1.drew h1.drew);have KW2:=Lib.hid (kw (w1.alloc (.cells #[.int .i64 0] 2)).drew (h1.alloc _).drew);clear kw
 go_cut [4] from 7 to 14 (fun v4 wc=>∃ q,v4=.pointer (some ⟨q,0,none⟩)∧Hid (wc.heap[q]?=some (.cells #[.int .i64 (s.now+we)] 2 (0,0)))∧Hid (w1.heap.size≤q)∧Below w1.heap.size w1 wc)
 case first =>
  refine wp_region_noPanic ?_
  go_region_with (first
   | (go_at_call 131;with_reducible refine KW1.out.mono ?_;rintro e w3 ⟨rfl,hb3⟩;have f0:=(h1.drew.below hb3).c0;have fz:=keep_c z0 hb3;have m0:=keep_b f0 (.cells #[.int .i64 0] 2);have mz:=keep_b fz (.cells #[.int .i64 0] 2))
   | (go_at_call 131;with_reducible refine KW2.out.mono ?_;rintro e w3 ⟨rfl,hb3⟩;have f0:=((h1.alloc (.cells #[.int .i64 0] 2)).drew.below hb3).c0;have fz:=keep_c2 z0 hb3;have fn:=new_c hb3;have fr:=new_f hb3))
  all_goals (refine NoPanic.normal ?_;go_wp2_with fail;go_meet;first | exact ⟨_,rfl,Lib.hid (endB hb3).1,Lib.hid (Nat.le_refl _),(endB hb3).2.2⟩ | exact ⟨_,rfl,Lib.hid (endA hb3).1,Lib.hid hb3.size,(endA hb3).2.2⟩)
 case rest =>
  rename World=>wm
  obtain ⟨q,rfl,HQ,HLE,hbc⟩:=hcut;have h2:=h1.below hbc;have zc:wm.cell? ⟨w.heap.size,0,none⟩=some (ptr y.c):=by rw [hbc.cell (cell_lt z0)];exact z0
  have hbw:=b1.trans (hbc.mono b1.size);have HZ1:Hid (wm.heap[w.heap.size]?=some (.cells #[ptr y.c] 24 (0,0))):=Lib.hid (by rw [hbc.block _ (lt_of_row HZ0.out)];exact HZ0.out)
  have HBW:=Lib.hid hbw;have HLQ:=Lib.hid (lt_of_row HQ.out);have HZL:=Lib.hid (Nat.lt_of_lt_of_le (cell_lt z0) hbc.size);have HB1S:=Lib.hid b1.size;clear z0 b1 q0 e0 ez hbc hbw;clear h1 KW1 KW2 HZ0;obtain ⟨R,hR⟩:∃ R,ups gf.pi s.last=R:=⟨_,rfl⟩
  have hbx:∀ i,(gf.pi.a i).isSome=true→∃ b,s.bx i=some b:=fun i t=>by
   obtain ⟨b,hb,_⟩:=V.lo K s f gf i hI eg (Or.inl t);exact ⟨b,hb⟩
  have KR:Hid (∀ W,Cor W own y s→Calls Tryz.prog 19 #[.map (some (y.fp f))] W fun e w'=>∃ G c,e=.returned (.slice (some ⟨G,0,none⟩) R.length c)∧w'.ownsRow W.heap.size 45 1 (.slice (some ⟨G,0,none⟩) R.length c) R.length (R.map (fun i=>ptr (y.bx i)))∧Below W.heap.size W w'):=Lib.hid (fun W hc=>by rw [←hR];exact k_rising hc B eg hbx)
  have HRN:=Lib.hid (show R.length<1073741823 from by have e1:=B.fu _ _ eg;have e2:=V4.cnt _ _ _ _ hI eg;rw [hR] at e2;omega)
  rw [hR] at hlt;have HR:=Lib.hid hR;have hk0:0≤gf.keep:=by have:=B.fu _ _ eg;omega
  obtain ⟨k,hk⟩:∃ k:Nat,gf.keep=(k:Int):=⟨gf.keep.toNat,by omega⟩
  have HK:=Lib.hid hk;have q4:=h2.g4 eg;rw [hk] at q4;have q10:=h2.g10 eg;have d4:∀ m,(wm.drewN m).cell? ⟨y.fb f,4,none⟩=some (.int .i64 (k:Int)):=fun m=>q4;have d10:∀ m,(wm.drewN m).cell? ⟨y.fb f,10,none⟩=some (.map (some (y.fp f))):=fun m=>q10;have hkl:k<R.length:=by omega
  have HKL:=Lib.hid hkl;have hsl:∀ (G c:Nat),R.length≤c→∀ W,(Instr.slice 73 (.slice (some ⟨G,0,none⟩) R.length c) (some (.int .i64 (k:Int))) none none).run Tryz.prog W=.ok (.slice (some ⟨G,k,none⟩) (R.length-k) (c-k)) W:=fun G c hc W=>run_fromA Tryz.underlying73 hi hz1 G R.length c k .i64 hkl hc W;have HSLI:=Lib.hid hsl;clear hsl;go_wp2_with fail
  go_cut [25] from 15 to 25 (fun v25 wc=>∃ Bp G c,v25=.func (.func 163) #[] #[ptr Bp]∧Hid (wc.heap[Bp]?=some (.cells #[.slice (some ⟨G,k,none⟩) (R.length-k) (c-k)] 73 (0,0)))∧Hid (wc.ownsRow wm.heap.size 45 1 (.slice (some ⟨G,0,none⟩) R.length c) R.length (R.map (fun i=>ptr (y.bx i))))∧Hid (wm.heap.size≤Bp)∧Below wm.heap.size wm wc)
  case first =>
   refine wp_region_noPanic ?_;have f4:=d4 1;have f10:=d10 1
   go_region_with (first
    | (go_at_call 19;with_reducible refine (KR.out _ h2.drew).mono ?_;rintro e w3 ⟨G,c,rfl,own3,hb3⟩;have g4:=keep_c q4 hb3;have hsl:=HSLI.out G c (own_cap own3).1)
    | (go_at_call 147;with_reducible refine (c_backF (.slice (some ⟨G,k,none⟩) (R.length-k) (c-k)) _ _ _ rfl).mono ?_;rintro e w5 ⟨rfl,rfl⟩))
   all_goals (refine NoPanic.normal ?_;go_wp2_with fail;go_meet;exact ⟨_,G,c,rfl,Lib.hid (endC hb3 own3).1,Lib.hid (endC hb3 own3).2.1,Lib.hid hb3.size,(endC hb3 own3).2.2.2⟩)
  case rest =>
   obtain ⟨Bp,G,c,rfl,HBp,HRow,HLe,hb⟩:=hcut;clear q4 q10 d4 d10 KR HSLI;have h3:=h2.below hb;have hbw:=HBW.out.trans (hb.mono HBW.out.size);have N3:=Nx.below own hbw;have HZ3:Hid (wc.heap[w.heap.size]?=some (.cells #[ptr y.c] 24 (0,0))):=Lib.hid (by rw [hb.block _ (lt_of_row HZ1.out)];exact HZ1.out)
   have HQ3:Hid (wc.heap[q]?=some (.cells #[.int .i64 (s.now+we)] 2 (0,0))):=Lib.hid (by rw [hb.block _ HLQ.out];exact HQ.out)
   have HG3:Hid (∃ o,wc.heap[G]?=some o∧w.heap.size≤G∧∀ W:World,W.heap[G]?=some o→∀ i (hi:i<R.length),W.cell? ⟨G,i,none⟩=some (ptr (y.bx R[i]))):=Lib.hid (by
    obtain ⟨o,ho⟩:∃ o,wc.heap[G]?=some o:=by
     have hc0:=lies_cell HRow.out (k:=0) (by rw [List.length_map];have:=HKL.out;omega)
     have hlt:G<wc.heap.size:=cell_lt hc0;exact ⟨wc.heap[G],Array.getElem?_eq_getElem hlt⟩
    refine ⟨o,ho,Nat.le_trans HBW.out.size (own_cap HRow.out).2.2,fun W hW i hi=>?_⟩;rw [World.cell?_of_block (show W.heap[G]?=wc.heap[G]? by rw [hW,ho])]
    have:=lies_cell HRow.out (k:=i) (by rw [List.length_map];exact hi)
    simpa using this)
   have HF:=Lib.hid (fun j (t:w.heap.size≤j)=>(HH.out.fresh t:own j=none));have HZQ:=Lib.hid (show w.heap.size≤q∧w.heap.size≤Bp from by have:=HLE.out;have:=HLe.out;have:=HZL.out;have:=HB1S.out;omega)
   clear h2 hb hbw HQ HZ1 HBW HRow;obtain ⟨tt,htt⟩:∃ tt,s.now+we=tt:=⟨_,rfl⟩;have htn:s.now<tt∧tt≤4398046511104:=by omega
   rw [htt] at HQ3;go_wp2_with fail
   obtain ⟨L,hL⟩:∃ L,R.drop k=L:=⟨_,rfl⟩;have hLl:L.length=R.length-k:=by rw [←hL,List.length_drop]
   have hpw:=ups_pw gf.pi s.last;rw [hR] at hpw;have HEQ:Hid (s.fewer f (s.now+we) ((ups gf.pi s.last).drop gf.keep.toNat).reverse=s.fewer f tt L.reverse):=Lib.hid (by rw [hR,hk,Int.toNat_natCast,hL,htt])
   have hmem:∀ i ∈ L,(gf.pi.a i).isSome=true:=fun i hi=>by
    rw [←hL] at hi;have:=List.mem_of_mem_drop hi
    rw [←hR,mem_ups] at this;exact this.2.2
   have hnd:L.Nodup:=by
    rw [←hL];exact ((hpw.imp (fun h=>Int.ne_of_lt h)):R.Nodup).sublist (List.drop_sublist k R)
   have HV:=Lib.hid (fewer_inv V4 hI eg htn.1 htn.2 L hmem hnd);have HI:=Lib.hid hI;have HEG:=Lib.hid eg;have HHM:=Lib.hid hmem;have HLL:=Lib.hid hLl;have HTN:=Lib.hid htn;have hNsz:w.heap.size≤wc.heap.size:=N3.only.size;have HNS:=Lib.hid hNsz;clear hNsz;obtain ⟨z,hz⟩:∃ z,w.heap.size=z:=⟨_,rfl⟩;rw [hz] at HZ3 HZQ HF HG3 HNS;rw [hz];have HZE:=Lib.hid hz;clear hz;clear hI eg hmem hLl htn hnd hpw hww hnow hwr hfld hbx hk0 hkl hlt hi hz0 hz1 hz2 B;refine range_func rfl (enters_of Tryz.func163 (by kernel_rfl) rfl) (fun W=>∃ o',Cor W o' y (s.fewer f tt L.reverse)∧Nx w own W o'∧o' (wc.heap.size+1)=none∧W.heap[wc.heap.size]?=some (.deferred (some []))∧o' wc.heap.size=none) (fun _ _=>False) ?hit ?hR ?hX
   case hit =>
    intro fn
    refine back_hit (S:=fun j=>s.fewer f tt (L.drop j).reverse) (o:=HG3.out.choose) (vv:=fun j=>ptr (y.bx (L.getD j 0))) (n:=R.length-k) (by
     show Cor wc own y (s.fewer f tt (L.drop (R.length-k)).reverse);rw [←HLL.out,List.drop_length];exact h3) N3 ?_ HBp.out (HF.out _ HZQ.out.2) HG3.out.choose_spec.1 (HF.out _ HG3.out.choose_spec.2.1) ?_ fn _ _ _ _ ?hY
    ·have:=HRN.out;omega
    ·intro W hW i hi
     have:=HG3.out.choose_spec.2.2 W hW (k+i) (by omega)
     rw [this]
     have e:L.getD i 0=R[k+i]:=by
      rw [←hL,List.getD_eq_getElem?_getD,List.getElem?_drop,List.getElem?_eq_getElem (by omega)];rfl
     rw [e]
    case hY =>
     refine gen_b (A:=fun W6=>Hid (W6.heap[z]?=some (.cells #[ptr y.c] 24 (0,0)))∧Hid (W6.heap[q]?=some (.cells #[.int .i64 tt] 2 (0,0)))) ⟨Lib.hid (Only.blk (Only.of_below (S:=fun _=>False) (loopW_below wc _)) (fun q=>q) HZ3.out),Lib.hid (Only.blk (Only.of_below (S:=fun _=>False) (loopW_below wc _)) (fun q=>q) HQ3.out)⟩ ?_;rintro W6 ⟨HA6,HB6⟩;intro j W oW hj hC hN hrl hol;have HLN:=Lib.hid (show z≠wc.heap.size+1∧q≠wc.heap.size+1 from by have:=lt_of_row HZ3.out;have:=lt_of_row HQ3.out;omega)
     generalize wc.heap.size+1=l at hrl hol hN HLN ⊢;dsimp only at hC ⊢;have hjl:j<L.length:=by have:=HLL.out;omega
     obtain ⟨gk,hIk,egk,hnk,hpk⟩:=HV.out (L.length-(j+1)) (j+1) (by omega)
     have hst:=fewer_step s f tt L hjl;have hget:L.getD j 0=L[j]:=by rw [List.getD_eq_getElem?_getD,List.getElem?_eq_getElem hjl];rfl
     rw [hst,hget];have hpj:=hpk j hjl (Nat.lt_succ_self j);obtain ⟨i,hi⟩:∃ i,L[j]=i:=⟨_,rfl⟩;rw [hi] at hpj ⊢;obtain ⟨sk,hsk⟩:∃ z:St,s.fewer f tt (L.drop (j+1)).reverse=z:=⟨_,rfl⟩;rw [hsk] at hC hIk egk hnk ⊢;obtain ⟨b,hb,hbq,hbf⟩:=V.lo K sk f gk i hIk egk (Or.inl hpj);obtain ⟨⟨p,hp⟩,_⟩:=(V.v K).put _ _ _ hIk hb hbq;have Bk:=(V.v K).bd _ hIk;obtain ⟨hBu,_⟩:=V4.un K sk f gk i tt hIk egk hpj (by rw [hnk];exact HTN.out.1) HTN.out.2
     have eg':sk.fu.a b.fn=some gk:=by rw [hbf];exact egk
     have hid:=(Bk.bx i b hb).1
     have hbu:(sk.unpin i).bx i=some { b with p:=false }:=by
      unfold St.unpin;rw [St.B_of hb];show updZ sk.bx b.id (some { b with p:=false }) i=_
      rw [hid,updZ_same]
     have egu:(sk.unpin i).fu.a b.fn=some { gk with pi:=gk.pi.del i,lo:=gk.lo.set i () }:=by
      unfold St.unpin;rw [St.B_of hb,St.G_of eg'];exact setG_at _ _ _
     have hpu:(sk.unpin i).pl.a b.ho=some p:=hp
     have hone:sk.one i tt=if b.q.idle then (sk.unpin i).idle i tt else sk.unpin i:=by
      unfold St.one;dsimp only;rw [St.B_of hbu]
     have hwt:(Lit.int .i64 tt).wf=true:=wfK (by have:=HTN.out;have:=Bk.now;omega) (by have:=HTN.out;omega)
     have KU:=Lib.hid (fun (W8:World) (h8:Cor W8 oW y sk)=>c_unpin h8 Bk hb eg');obtain ⟨su,hsu⟩:∃ z:St,sk.unpin i=z:=⟨_,rfl⟩;rw [hsu] at hbu egu hpu hone hBu KU;rw [hone];have KD:=Lib.hid (fun (W9:World) (o9:Nat→Option Tag) (h9:Cor W9 o9 y su)=>c_idle h9 hBu hbu hpu egu tt hwt);have KI:=Lib.hid (fun (W9:World) (o9:Nat→Option Tag) (h9:Cor W9 o9 y su)=>k_idle h9 hbu);have HA7:=Lib.hid (hN.blk (HF.out z (Nat.le_refl z)) HLN.out.1 HA6.out);have HB7:=Lib.hid (hN.blk (HF.out q HZQ.out.1) HLN.out.2 HB6.out);have HO7:=Lib.hid (And.intro (hN.none (HF.out z (Nat.le_refl z)) (lt_of_row HA6.out)) (hN.none (HF.out q HZQ.out.1) (lt_of_row HB6.out)));have HRL:=Lib.hid hrl;have HHL:=Lib.hid hol;have HNN:=Lib.hid hN;have HCC:=Lib.hid hC;obtain ⟨bi,hbi⟩:∃ bi,b.q.idle=bi:=⟨_,rfl⟩
     have kI:∀ (W9:World) (o9:Nat→Option Tag) (h9:Cor W9 o9 y su),Calls Tryz.prog 62 #[ptr (y.bx i)] W9 fun e w'=>e=.returned (.bool bi)∧W9=w':=fun W9 o9 h9=>by
      have:=KI.out W9 o9 h9
      rw [←hbi];exact this
     have KI2:=Lib.hid kI;rw [hbi];obtain ⟨so,hso⟩:∃ so:St,(if bi then su.idle i tt else su)=so:=⟨_,rfl⟩;rw [hso];have HSO:=Lib.hid hso;clear hso
     obtain ⟨fn',t',a',b',hy,hR⟩:=yield_round (P:=Tryz.prog) (xs:=#[.int .i64 (j:Int),ptr (y.bx i)]) rfl hrl (fun W'=>∃ o',Cor W' o' y so∧Nl l W6 own W' o'∧o' l=none) (fun _ _=>False) (by
      clear hIk egk hnk hpk hst hget hpj hi hsk hb hbq hbf hp eg' hid hbu egu hpu hone hwt hsu hBu Bk hbi kI KI hC hN hrl hol hj hjl h3 N3
      gi_wp2
      refine ⟨HRL.out,?_⟩;refine gen_put (A:=fun W8=>Cor W8 oW y sk∧Nl l W6 own W8 oW∧Hid (W8.heap[z]?=some (.cells #[ptr y.c] 24 (0,0)))∧Hid (W8.heap[q]?=some (.cells #[.int .i64 tt] 2 (0,0)))) (lt_of_row HRL.out) ⟨HCC.out.side (putObj_only W l _) (fun j q=>by rw [q];exact HHL.out),HNN.out.put _,Lib.hid ((World.putObj_heap_other HLN.out.1).trans HA7.out),Lib.hid ((World.putObj_heap_other HLN.out.2).trans HB7.out)⟩ ?_
      rintro W8 ⟨h8,N8,HA8,HB8⟩ hob;have HOB8:=Lib.hid hob;have q0:=cell_of_row _ _ 0 _ _ _ HA8.out;clear hob
      gi_wp2_with (refine ⟨trivial,?_⟩;gi_at_call 85;refine (CallsIn.inRound l (callsIn_wide.2 (KU.out W8 h8))).mono ?_;rintro e W9 ⟨rfl,o9,h9,n9⟩)
      have HA9:=Lib.hid (n9.blk HO7.out.1 HA8.out);have HB9:=Lib.hid (n9.blk HO7.out.2 HB8.out);have HO9:=Lib.hid (And.intro (n9.none HO7.out.1 (lt_of_row HA8.out)) (n9.none HO7.out.2 (lt_of_row HB8.out)));have HOB9:=Lib.hid (n9.blk HHL.out HOB8.out);have HOL9:=Lib.hid (n9.none HHL.out (lt_of_row HOB8.out));have N9:=N8.trans n9;clear q0 N8 n9 h8 HA8 HB8 HOB8
      cases bi with
      | false =>
       gi_wp2_with (refine ⟨trivial,?_⟩;gi_at_call 62;refine (CallsIn.inRound l (callsIn_wide.2 (KI2.out W9 o9 h9))).mono ?_;rintro e W10 ⟨rfl,rfl⟩)
       exact ⟨HOB9.out,fun o=>⟨o9,by rw [←HSO.out];exact h9.side (putObj_only _ l o) (fun j q=>by rw [q];exact HOL9.out),N9.put o,HOL9.out⟩⟩
      | true =>
       have q0:=cell_of_row _ _ 0 _ _ _ HA9.out;have q1:=cell_of_row _ _ 0 _ _ _ HB9.out
       gi_wp2_with (first
        | (refine ⟨trivial,?_⟩;gi_at_call 62;refine (CallsIn.inRound l (callsIn_wide.2 (KI2.out W9 o9 h9))).mono ?_;rintro e W10 ⟨rfl,rfl⟩)
        | (refine ⟨trivial,?_⟩;gi_at_call 132;refine (CallsIn.inRound l (callsIn_wide.2 (KD.out W9 o9 h9))).mono ?_;rintro e W10 ⟨rfl,o10,h10,n10⟩))
       have HOB10:=Lib.hid (n10.blk HOL9.out HOB9.out);have HOL10:=Lib.hid (n10.none HOL9.out (lt_of_row HOB9.out));have N10:=N9.trans n10;exact ⟨HOB10.out,fun o=>⟨o10,by rw [←HSO.out];exact h10.side (putObj_only _ l o) (fun j q=>by rw [q];exact HOL10.out),N10.put o,HOL10.out⟩⟩)
     exact ⟨fn',t',a',b',hy,hR.mono (fun e W' q=>by
      rcases q with ⟨q1,q2,q3⟩ | ⟨q1,c,q2,q3⟩
      ·exact ⟨q1,q2,q3⟩
      ·exact q3.elim)⟩
   case hR =>
    rintro W o ⟨o',h',n',ho',hd',hod⟩;have hzw:w.heap.size≤wc.heap.size:=N3.only.size;have hd2:(W.putObj (wc.heap.size+1) o).heap[wc.heap.size]?=some (.deferred (some [])):=(World.putObj_heap_other (by omega)).trans hd'
    go_wp2
    refine ⟨by simp,.inl ⟨_,_,rfl,run_takeDeferred hd2,?_⟩⟩
    exact ⟨_,results_none rfl _ _ _,rfl,o',by rw [HEQ.out];exact (h'.side (putObj_only _ _ _) (fun j q=>by rw [q];exact ho')).side (putObj_only _ _ _) (fun j q=>by rw [q];exact hod),(n'.side (putObj_only _ _ _) (fun j q=>by omega)).side (putObj_only _ _ _) (fun j q=>by omega)⟩
   case hX =>
    rintro c W o h;exact h.elim
end Go.Proofs.YthdengocipfgiaaGreat.W.C
