import Derived.Test.YthdengocipfgiaaGreatCaL
import Derived.BigRegion
import Derived.Test.YthdengocipfgiaaGreatCaM
import Derived.Test.YthdengocipfgiaaGreatCbA
import Derived.Maps.OwnSet
import Derived.Maps.OwnOps
import Derived.Maps.RangeWalk
import Derived.Test.YthdengocipfgiaaGreatCdA
import Derived.Test.YthdengocipfgiaaGreatCcK
import Derived.Test.YthdengocipfgiaaGreatCcN
import Derived.BigQuiet
import Derived.Test.YthdengocipfgiaaGreatCcO
import Derived.Test.YthdengocipfgiaaGreatCcM
import Derived.Test.YthdengocipfgiaaGreatCdB
/- What one law of core alone stands on. -/
set_option linter.unusedVariables false
set_option linter.unusedSimpArgs false
set_option maxRecDepth 100000
set_option maxHeartbeats 6400000
namespace Go.Proofs.YthdengocipfgiaaGreat.W.HT
open Go.RowKit
theorem sizeV:(Tryz.prog.info? 107).map (·.size)=some 3:=by kernel_rfl
theorem wpList_store_mo {w:World} {ops:Array Oper} {rest:List Oper} {o:Oper} {a:Act} {Q:Exit→Act→World→Prop} (hgd:o.guard=none) (x y:Operand) (ho:o.op=.store 107 x y)
  (g:Nat) (p q d:Int) (hx:a.eval x=.pointer (some ⟨g,0,none⟩)) (hy:a.eval y=.agg #[.int .i64 p,.int .i64 q,.int .i64 d]) (i j k:Int)
  (HG:Hid (w.heap[g]?=some (.cells #[.int .i64 i,.int .i64 j,.int .i64 k] 107 (0,0))))
  (hn:∀ w',Hid (w'.heap[g]?=some (.cells #[.int .i64 p,.int .i64 q,.int .i64 d] 107 (0,0)))→w.grownBy w' (some g)→wpList Tryz.prog ops Q rest (a.put o.dst undef) w'):wpList Tryz.prog ops Q (o :: rest) a w:=by
 refine wpList_store_row hgd _ x y ho g _ hx hy _ _ HG.out sizeV rfl (by simp [Value.oneCell']) ?_
 exact hn _ (Lib.hid (show _=_ from setRow_heap w g _ _ _ _ HG.out)) ⟨rfl,rfl,rfl,by simp [World.setRow],fun k _ hk=>setRow_other w g k _ (by intro e;exact hk (by rw [e]))⟩
theorem get_some (r:Nat) (Fv:Value) (n:Nat) (A:K→Option V) (X:Nat→Prop) (w:World) (h:Ob w r Fv n A X) (k:K) (hk:kw k) (v:V) (hv:A k=some v) (hn:n<1073741824) :
  Calls Tryz.prog 39 #[.pointer (some ⟨r,0,none⟩),kv k] w fun e w'=>e=.returned (.tuple #[vv v,.bool true])∧Below w.heap.size w w':=by
 obtain ⟨G,B,sv,T,M,h,h1,h2,h3,h4⟩:=h
 cases hM:M k with
 | none=>rw [h.full.isnone hM] at hv;cases hv
 | some i =>
  obtain ⟨hin,hA,hkey⟩:=h.full.get hM;rw [hv] at hA;injection hA with hA
  obtain ⟨g,cap,hG,rfl,hrow⟩:=h.its.some_ (by omega)
  obtain ⟨b,hB,hmp⟩:∃ b,B=some b∧Mp Tryz.prog 77 w b (fun k=>(M k).map (fun j:Nat=>Value.int .i64 (j:Int))) n:=by
   rcases h.mp with ⟨_,_,q⟩ | q
   ·rw [q k] at hM;cases hM
   ·exact q
  subst hB;have hini:(i:Int)<(n:Int):=by omega
  have HM:=Lib.hid hM;have HA:=Lib.hid hA;clear hM hv hA
  go_enter Tryz.func39,Tryz.ntmps39
  go_upto_region 1 with (fail)
  have hO0:Only w ((w.alloc (.cells #[.int .i64 k.1,.int .i64 k.2] 77)).alloc (.cells #[.int .i64 0,.int .i64 0,.int .i64 0] 107)) (fun _=>False):=((Only.refl w _).alloc _).alloc _;have HBK:Hid (((w.alloc (.cells #[.int .i64 k.1,.int .i64 k.2] 77)).alloc (.cells #[.int .i64 0,.int .i64 0,.int .i64 0] 107)).heap[w.heap.size]?=some (.cells #[.int .i64 k.1,.int .i64 k.2] 77)):=Lib.hid ((Only.alloc (Only.refl (w.alloc (.cells #[.int .i64 k.1,.int .i64 k.2] 77)) (fun _=>False)) _).blk (fun q=>q) (heap_alloc_new w _));have HBZ:Hid (((w.alloc (.cells #[.int .i64 k.1,.int .i64 k.2] 77)).alloc (.cells #[.int .i64 0,.int .i64 0,.int .i64 0] 107)).heap[w.heap.size+1]?=some (.cells #[.int .i64 0,.int .i64 0,.int .i64 0] 107)):=Lib.hid (by have:=heap_alloc_new (w.alloc (.cells #[.int .i64 k.1,.int .i64 k.2] 77)) (.cells #[.int .i64 0,.int .i64 0,.int .i64 0] 107);rwa [World.size_alloc] at this)
  generalize ((w.alloc (.cells #[.int .i64 k.1,.int .i64 k.2] 77)).alloc (.cells #[.int .i64 0,.int .i64 0,.int .i64 0] 107))=w0 at hO0 HBK HBZ ⊢;have hBL:=hO0.blk (fun q=>q) h.blk;have hmp:=hmp.kept hO0 (fun q=>q);have c2:=cell_of_row _ _ 2 _ _ _ hBL;have y0:=cell_of_row _ _ 0 _ _ _ HBK.out;have y1:=cell_of_row _ _ 1 _ _ _ HBK.out;have hrun:∀ x,(Instr.lookup 135 (.map (some b)) (.agg #[.int .i64 k.1,.int .i64 k.2]) true).run Tryz.prog (w0.drewN x)=.ok (.tuple #[.int .i64 (i:Int),.bool true]) (w0.drewN x):=fun x=>by rw [(hmp.kept ((Only.refl w0 (fun _=>False)).drewN x) (fun q=>q)).run_ok kd Tryz.underlying135 (zeroI _) hk];simp [HM.out]
  have hrun1:(Instr.lookup 135 (.map (some b)) (.agg #[.int .i64 k.1,.int .i64 k.2]) true).run Tryz.prog w0.drew=.ok (.tuple #[.int .i64 (i:Int),.bool true]) w0.drew:=hrun 1
  go_quiet (fail)
  have hOd:=hO0.drewN nq;have HBZ:=Lib.hid (((Only.refl w0 (fun _=>False)).drewN nq).blk (fun q=>q) HBZ.out);clear hrun hrun1 c2 y0 y1;generalize w0.drewN nq=w2 at hOd HBZ ⊢;have hrow2:=hrow.kept hOd (fun q=>q);have c1:=cell_of_row _ _ 1 _ _ _ (hOd.blk (fun q=>q) h.blk);have x1:w2.cell? ⟨g,i*5+2,none⟩=some (.int .i64 v.1):=hrow2.cell (c:=2) hin (by simp [←HA.out]) rfl
  have x2:w2.cell? ⟨g,i*5+3,none⟩=some (.int .i64 v.2.1):=hrow2.cell (c:=3) hin (by simp [←HA.out]) rfl
  have x3:w2.cell? ⟨g,i*5+4,none⟩=some (.int .i64 v.2.2):=hrow2.cell (c:=4) hin (by simp [←HA.out]) rfl
  go_wp2_with (with_reducible refine wpList_store_mo rfl (.tmp 4) (.tmp 28) rfl (w.heap.size+1) v.1 v.2.1 v.2.2 rfl rfl 0 0 0 HBZ ?_;intro w3 HB3 hg3)
  have o3:Only w w3 (fun _=>False):=hOd.trans (Only.grown hg3 (Or.inl rfl):Only w2 w3 (fun j=>j=w.heap.size+1)) (fun j q=>Or.inr (by omega))
  have z0:=cell_of_row _ _ 0 _ _ _ HB3.out;have z1:=cell_of_row _ _ 1 _ _ _ HB3.out;have z2:=cell_of_row _ _ 2 _ _ _ HB3.out;exact bodyPost_ret (v:=.tuple #[vv v,.bool true]) (by simp [results,Tryz.results39,go_sem,z0,z1,z2]) rfl ⟨rfl,o3.below (fun _ q=>q.elim) (Nat.le_refl _)⟩
theorem get_none (r:Nat) (Fv:Value) (n:Nat) (A:K→Option V) (X:Nat→Prop) (w:World) (h:Ob w r Fv n A X) (k:K) (hk:kw k) (hv:A k=none) :
  Calls Tryz.prog 39 #[.pointer (some ⟨r,0,none⟩),kv k] w fun e w'=>e=.returned (.tuple #[.agg #[.int .i64 0,.int .i64 0,.int .i64 0],.bool false])∧Below w.heap.size w w':=by
 obtain ⟨G,B,sv,T,M,h,h1,h2,h3,h4⟩:=h
 have hM:M k=none:=by
  cases q:M k with
  | none=>rfl
  | some i=>rw [(h.full.get q).2.1] at hv;cases hv
 have HM:=Lib.hid hM;clear hM hv
 rcases h.mp with ⟨hB,_⟩ | ⟨b,hB,hmp⟩
 ·subst hB
  go_enter Tryz.func39,Tryz.ntmps39
  go_upto_region 1 with (fail)
  have hO0:Only w ((w.alloc (.cells #[.int .i64 k.1,.int .i64 k.2] 77)).alloc (.cells #[.int .i64 0,.int .i64 0,.int .i64 0] 107)) (fun _=>False):=((Only.refl w _).alloc _).alloc _;have HBK:Hid (((w.alloc (.cells #[.int .i64 k.1,.int .i64 k.2] 77)).alloc (.cells #[.int .i64 0,.int .i64 0,.int .i64 0] 107)).heap[w.heap.size]?=some (.cells #[.int .i64 k.1,.int .i64 k.2] 77)):=Lib.hid ((Only.alloc (Only.refl (w.alloc (.cells #[.int .i64 k.1,.int .i64 k.2] 77)) (fun _=>False)) _).blk (fun q=>q) (heap_alloc_new w _));have HBZ:Hid (((w.alloc (.cells #[.int .i64 k.1,.int .i64 k.2] 77)).alloc (.cells #[.int .i64 0,.int .i64 0,.int .i64 0] 107)).heap[w.heap.size+1]?=some (.cells #[.int .i64 0,.int .i64 0,.int .i64 0] 107)):=Lib.hid (by have:=heap_alloc_new (w.alloc (.cells #[.int .i64 k.1,.int .i64 k.2] 77)) (.cells #[.int .i64 0,.int .i64 0,.int .i64 0] 107);rwa [World.size_alloc] at this)
  generalize ((w.alloc (.cells #[.int .i64 k.1,.int .i64 k.2] 77)).alloc (.cells #[.int .i64 0,.int .i64 0,.int .i64 0] 107))=w0 at hO0 HBK HBZ ⊢;have hBL:=hO0.blk (fun q=>q) h.blk;have c2:=cell_of_row _ _ 2 _ _ _ hBL;have y0:=cell_of_row _ _ 0 _ _ _ HBK.out;have y1:=cell_of_row _ _ 1 _ _ _ HBK.out;have hrun:∀ x,(Instr.lookup 135 (.map none) (.agg #[.int .i64 k.1,.int .i64 k.2]) true).run Tryz.prog (w0.drewN x)=.ok (.tuple #[.int .i64 0,.bool false]) (w0.drewN x):=fun x=>run_nil kd Tryz.underlying135 (zeroI _) hk;have hrun1:(Instr.lookup 135 (.map none) (.agg #[.int .i64 k.1,.int .i64 k.2]) true).run Tryz.prog w0.drew=.ok (.tuple #[.int .i64 0,.bool false]) w0.drew:=hrun 1
  go_quiet (fail)
  have hOd:=hO0.drewN nq;have HBZ:=Lib.hid (((Only.refl w0 (fun _=>False)).drewN nq).blk (fun q=>q) HBZ.out);clear hrun hrun1 c2 y0 y1;generalize w0.drewN nq=w2 at hOd HBZ ⊢;go_upto_region 4 with (fail)
  have hOe:=hOd.alloc (.cells #[.int .i64 0,.int .i64 0,.int .i64 0] 107);have HBZ:=Lib.hid (((Only.refl w2 (fun _=>False)).alloc (.cells #[.int .i64 0,.int .i64 0,.int .i64 0] 107)).blk (fun q=>q) HBZ.out);have HBN:=heap_alloc_new w2 (.cells #[.int .i64 0,.int .i64 0,.int .i64 0] 107);generalize w2.heap.size=H at HBN ⊢;generalize w2.alloc (.cells #[.int .i64 0,.int .i64 0,.int .i64 0] 107)=w2 at hOe HBZ HBN ⊢;have x0:=cell_of_row _ _ 0 _ _ _ HBN;have x1:=cell_of_row _ _ 1 _ _ _ HBN;have x2:=cell_of_row _ _ 2 _ _ _ HBN;have hOd:=hOe;go_wp2_with (with_reducible refine wpList_store_mo rfl (.tmp 4) (.tmp 20) rfl (w.heap.size+1) 0 0 0 rfl rfl 0 0 0 HBZ ?_;intro w3 HB3 hg3)
  have o3:Only w w3 (fun _=>False):=hOd.trans (Only.grown hg3 (Or.inl rfl):Only w2 w3 (fun j=>j=w.heap.size+1)) (fun j q=>Or.inr (by omega))
  have z0:=cell_of_row _ _ 0 _ _ _ HB3.out;have z1:=cell_of_row _ _ 1 _ _ _ HB3.out;have z2:=cell_of_row _ _ 2 _ _ _ HB3.out;exact bodyPost_ret (v:=.tuple #[.agg #[.int .i64 0,.int .i64 0,.int .i64 0],.bool false]) (by simp [results,Tryz.results39,go_sem,z0,z1,z2]) rfl ⟨rfl,o3.below (fun _ q=>q.elim) (Nat.le_refl _)⟩
 ·subst hB
  go_enter Tryz.func39,Tryz.ntmps39
  go_upto_region 1 with (fail)
  have hO0:Only w ((w.alloc (.cells #[.int .i64 k.1,.int .i64 k.2] 77)).alloc (.cells #[.int .i64 0,.int .i64 0,.int .i64 0] 107)) (fun _=>False):=((Only.refl w _).alloc _).alloc _;have HBK:Hid (((w.alloc (.cells #[.int .i64 k.1,.int .i64 k.2] 77)).alloc (.cells #[.int .i64 0,.int .i64 0,.int .i64 0] 107)).heap[w.heap.size]?=some (.cells #[.int .i64 k.1,.int .i64 k.2] 77)):=Lib.hid ((Only.alloc (Only.refl (w.alloc (.cells #[.int .i64 k.1,.int .i64 k.2] 77)) (fun _=>False)) _).blk (fun q=>q) (heap_alloc_new w _));have HBZ:Hid (((w.alloc (.cells #[.int .i64 k.1,.int .i64 k.2] 77)).alloc (.cells #[.int .i64 0,.int .i64 0,.int .i64 0] 107)).heap[w.heap.size+1]?=some (.cells #[.int .i64 0,.int .i64 0,.int .i64 0] 107)):=Lib.hid (by have:=heap_alloc_new (w.alloc (.cells #[.int .i64 k.1,.int .i64 k.2] 77)) (.cells #[.int .i64 0,.int .i64 0,.int .i64 0] 107);rwa [World.size_alloc] at this)
  generalize ((w.alloc (.cells #[.int .i64 k.1,.int .i64 k.2] 77)).alloc (.cells #[.int .i64 0,.int .i64 0,.int .i64 0] 107))=w0 at hO0 HBK HBZ ⊢;have hBL:=hO0.blk (fun q=>q) h.blk;have hmp:=hmp.kept hO0 (fun q=>q);have c2:=cell_of_row _ _ 2 _ _ _ hBL;have y0:=cell_of_row _ _ 0 _ _ _ HBK.out;have y1:=cell_of_row _ _ 1 _ _ _ HBK.out;have hrun:∀ x,(Instr.lookup 135 (.map (some b)) (.agg #[.int .i64 k.1,.int .i64 k.2]) true).run Tryz.prog (w0.drewN x)=.ok (.tuple #[.int .i64 0,.bool false]) (w0.drewN x):=fun x=>by rw [(hmp.kept ((Only.refl w0 (fun _=>False)).drewN x) (fun q=>q)).run_ok kd Tryz.underlying135 (zeroI _) hk];simp [HM.out]
  have hrun1:(Instr.lookup 135 (.map (some b)) (.agg #[.int .i64 k.1,.int .i64 k.2]) true).run Tryz.prog w0.drew=.ok (.tuple #[.int .i64 0,.bool false]) w0.drew:=hrun 1
  go_quiet (fail)
  have hOd:=hO0.drewN nq;have HBZ:=Lib.hid (((Only.refl w0 (fun _=>False)).drewN nq).blk (fun q=>q) HBZ.out);clear hrun hrun1 c2 y0 y1;generalize w0.drewN nq=w2 at hOd HBZ ⊢;go_upto_region 4 with (fail)
  have hOe:=hOd.alloc (.cells #[.int .i64 0,.int .i64 0,.int .i64 0] 107);have HBZ:=Lib.hid (((Only.refl w2 (fun _=>False)).alloc (.cells #[.int .i64 0,.int .i64 0,.int .i64 0] 107)).blk (fun q=>q) HBZ.out);have HBN:=heap_alloc_new w2 (.cells #[.int .i64 0,.int .i64 0,.int .i64 0] 107);generalize w2.heap.size=H at HBN ⊢;generalize w2.alloc (.cells #[.int .i64 0,.int .i64 0,.int .i64 0] 107)=w2 at hOe HBZ HBN ⊢;have x0:=cell_of_row _ _ 0 _ _ _ HBN;have x1:=cell_of_row _ _ 1 _ _ _ HBN;have x2:=cell_of_row _ _ 2 _ _ _ HBN;have hOd:=hOe;go_wp2_with (with_reducible refine wpList_store_mo rfl (.tmp 4) (.tmp 20) rfl (w.heap.size+1) 0 0 0 rfl rfl 0 0 0 HBZ ?_;intro w3 HB3 hg3)
  have o3:Only w w3 (fun _=>False):=hOd.trans (Only.grown hg3 (Or.inl rfl):Only w2 w3 (fun j=>j=w.heap.size+1)) (fun j q=>Or.inr (by omega))
  have z0:=cell_of_row _ _ 0 _ _ _ HB3.out;have z1:=cell_of_row _ _ 1 _ _ _ HB3.out;have z2:=cell_of_row _ _ 2 _ _ _ HB3.out;exact bodyPost_ret (v:=.tuple #[.agg #[.int .i64 0,.int .i64 0,.int .i64 0],.bool false]) (by simp [results,Tryz.results39,go_sem,z0,z1,z2]) rfl ⟨rfl,o3.below (fun _ q=>q.elim) (Nat.le_refl _)⟩
end Go.Proofs.YthdengocipfgiaaGreat.W.HT
namespace Go.Proofs.YthdengocipfgiaaGreat.W.HT
open Go.RowKit
theorem at_end {P Y:Nat→Prop} {w w4:World} {c r n Z:Nat} {A:K→Option Int} (h4:Ta w4 c r n A Y) (hY:∀ j,Y j→P j) (o:Only w w4 P) (hZ:w.heap.size≤Z) (hYZ:¬ Y Z) (hcZ:c≠Z) (hPc:P c) (v0 v1 v2:Value) :
  Tq P (((w4.setCell ⟨Z,0,none⟩ v0).setCell ⟨Z,1,none⟩ v1).setCell ⟨Z,2,none⟩ v2) c n A∧Only w (((w4.setCell ⟨Z,0,none⟩ v0).setCell ⟨Z,1,none⟩ v1).setCell ⟨Z,2,none⟩ v2) P:=by
 have hg:w4.grownBy (((w4.setCell ⟨Z,0,none⟩ v0).setCell ⟨Z,1,none⟩ v1).setCell ⟨Z,2,none⟩ v2) (some Z):=grown_trans (grown_trans (grown_set w4 0 Z 0 v0) (grown_set _ 0 Z 1 v1)) (grown_set _ 0 Z 2 v2);have ho:Only w4 (((w4.setCell ⟨Z,0,none⟩ v0).setCell ⟨Z,1,none⟩ v1).setCell ⟨Z,2,none⟩ v2) (fun j=>j=Z):=Only.grown hg (Or.inl rfl);exact ⟨⟨hPc,Or.inr ⟨r,Y,h4.kept ho (fun q=>hcZ q) (fun j q e=>hYZ (by rw [←e];exact q)),hY⟩⟩,o.trans ho (fun j q=>by rw [q];exact Or.inr hZ)⟩
theorem t_at {P:Nat→Prop} (w:World) (c n:Nat) (A:K→Option Int) (k:K) (h:Tq P w c n A) (hk:kw k) (hn:n<1073741824) (hP:∀ j,w.heap.size≤j→P j) :
    Calls Tryz.prog 22 #[.pointer (some ⟨c,0,none⟩),kv k] w fun e w'=>e=.returned (.tuple #[.int .i64 ((A k).getD 0),.bool (A k).isSome])∧Tq P w' c n A∧Only w w' P:=by
  obtain ⟨v,bb,hv,h0,h0'⟩:∃ (v:V) (bb:Bool),(∀ (r:Nat) (Y:Nat→Prop) (w:World),Ob w r FS n (Mo A) Y→Calls Tryz.prog 39 #[.pointer (some ⟨r,0,none⟩),kv k] w fun e w'=>e=.returned (.tuple #[vv v,.bool bb])∧Below w.heap.size w w')∧(A k).getD 0=v.1∧(A k).isSome=bb:=by
    cases q:A k with
    | none=>exact ⟨(0,0,0),false,fun r Y w hb=>get_none r FS n (Mo A) Y w hb k hk (Mo_no q),rfl,rfl⟩
    | some t=>exact ⟨(t,k),true,fun r Y w hb=>get_some r FS n (Mo A) Y w hb k hk (t,k) (Mo_at q) hn,rfl,rfl⟩
  rw [h0,h0'];clear h0 h0'
  go_enter Tryz.func22,Tryz.ntmps22
  go_upto_region 1 with (fail)
  have b1:Below w.heap.size w (w.alloc (.cells #[.int .i64 k.1,.int .i64 k.2] 77)):=(Below.refl _ _).alloc (Nat.le_refl _) _;have HBX:=Lib.hid (heap_alloc_new w (.cells #[.int .i64 k.1,.int .i64 k.2] 77));obtain ⟨H,hH⟩:∃ H,w.heap.size=H:=⟨_,rfl⟩;have hx:Tq (fun j=>P j∧j≠H) (w.alloc (.cells #[.int .i64 k.1,.int .i64 k.2] 77)) c n A:=(h.tight.below b1).mono (fun j q=>⟨q.1,by omega⟩)
  have hHc:H≠c:=by have:=h.lt;omega
  have hHw:w.heap.size≤H:=by omega
  rw [hH] at HBX;rw [hH];clear hH h;have hHlt:=lt_of_row HBX.out;generalize w.alloc (.cells #[.int .i64 k.1,.int .i64 k.2] 77)=w1 at b1 HBX hx hHlt ⊢;have hPx:∀ j,w1.heap.size≤j→(fun j=>P j∧j≠H) j:=fun j q=>⟨hP j (Nat.le_trans b1.size q),by omega⟩
  have hPd:∀ j,w1.drew.heap.size≤j→(fun j=>P j∧j≠H) j:=hPx;have hxd:Tq (fun j=>P j∧j≠H) w1.drew c n A:=hx.kept ((Only.refl w1 (fun _=>False)).drewN 1) (fun _ _ q=>q);have e0:=cell_of_row _ _ 0 _ _ _ HBX.out;have e1:=cell_of_row _ _ 1 _ _ _ HBX.out;have e0d:w1.drew.cell? ⟨H,0,none⟩=some (.int .i64 k.1):=e0;have e1d:w1.drew.cell? ⟨H,1,none⟩=some (.int .i64 k.2):=e1;have bd:Below w.heap.size w w1.drew:=below_drewN b1 1;have hZd:w1.drew.heap.size=w1.heap.size:=rfl;have bz:Below w.heap.size w (w1.drew.alloc (.cells #[.int .i64 0,.int .i64 0,.int .i64 0] 107)):=bd.alloc bd.size _;have hxz:Tq (fun j=>P j∧j≠w1.heap.size) (w1.drew.alloc (.cells #[.int .i64 0,.int .i64 0,.int .i64 0] 107)) c n A:=((hxd.tight.mono (P':=fun j=>P j∧j≠w1.heap.size) (fun j q=>⟨q.1.1,by have:=q.2;omega⟩)).kept ((Only.refl w1.drew (fun _=>False)).alloc _) (fun _ _ q=>q))
  have hPz:∀ j,(w1.drew.alloc (.cells #[.int .i64 0,.int .i64 0,.int .i64 0] 107)).heap.size≤j→(fun j=>P j∧j≠w1.heap.size) j:=fun j q=>by rw [World.size_alloc] at q;exact ⟨hP j (by have:=bd.size;omega),by omega⟩
  have HRZ:Hid ((w1.drew.alloc (.cells #[.int .i64 0,.int .i64 0,.int .i64 0] 107)).heap[w1.heap.size]?=some (.cells #[.int .i64 0,.int .i64 0,.int .i64 0] 107)):=Lib.hid (heap_alloc_new w1.drew _);have hcZ:c≠w1.heap.size:=by have:=hxd.lt;omega
  have hwZ:w.heap.size≤w1.heap.size:=bd.size;have hHZ:H≠w1.heap.size:=by omega
  have e0z:(w1.drew.alloc (.cells #[.int .i64 0,.int .i64 0,.int .i64 0] 107)).cell? ⟨H,0,none⟩=some (.int .i64 k.1):=((Only.refl w1.drew (fun _=>False)).alloc _).cell (fun q=>q) e0d;have e1z:(w1.drew.alloc (.cells #[.int .i64 0,.int .i64 0,.int .i64 0] 107)).cell? ⟨H,1,none⟩=some (.int .i64 k.2):=((Only.refl w1.drew (fun _=>False)).alloc _).cell (fun q=>q) e1d;clear hZd
  go_region_with (first
    | (go_at_call 38;refine (all_any (P:=fun j=>P j∧j≠w1.heap.size) _ c n A hxz hPz).mono ?_;rintro e w3 ⟨r,Y,rfl,h3,h4,o3⟩;have f0:=o3.cell (x:=⟨H,0,none⟩) hHc e0z;have f1:=o3.cell (x:=⟨H,1,none⟩) hHc e1z;have hH3:H<w3.heap.size:=cell_lt f0;have HZ3:=Lib.hid (o3.blk (fun q=>hcZ q.symm) HRZ.out))
    | (go_at_call 38;refine (all_any _ c n A hxd hPd).mono ?_;rintro e w3 ⟨r,Y,rfl,h3,h4,o3⟩;have f0:=o3.cell (x:=⟨H,0,none⟩) hHc e0d;have f1:=o3.cell (x:=⟨H,1,none⟩) hHc e1d;have hH3:H<w3.heap.size:=cell_lt f0)
    | (go_at_call 39;have hZY:=fun q=>(h4 _ q).2 rfl;have hZ3:=HZ3.out;refine (hv r Y _ h3.ob).mono ?_;rintro e w4 ⟨rfl,g5⟩;have HZ4:=Lib.hid ((Only.of_below (S:=fun _=>False) g5).blk (fun q=>q) hZ3);clear hZ3;have n0:=frozen_of_row w4 w1.heap.size 0 _ _ HZ4.out;have n1:=frozen_of_row w4 w1.heap.size 1 _ _ HZ4.out;have n2:=frozen_of_row w4 w1.heap.size 2 _ _ HZ4.out;have z0:=cell_of_row _ _ 0 _ _ _ HZ4.out;have z1:=cell_of_row _ _ 1 _ _ _ HZ4.out;have z2:=cell_of_row _ _ 2 _ _ _ HZ4.out)
    | (go_at_call 39;refine (hv r Y w3 h3.ob).mono ?_;rintro e w4 ⟨rfl,g5⟩)
    | (go_at_call 39;refine (hv r Y (w3.alloc (.cells #[.int .i64 0,.int .i64 0,.int .i64 0] 107)) (h3.ob.kept ((Only.refl w3 (fun _=>False)).alloc _) (fun _ _ q=>q))).mono ?_;rintro e w4 ⟨rfl,g5⟩;have HZ4:=Lib.hid ((Only.of_below (S:=fun _=>False) g5).blk (fun q=>q) (heap_alloc_new w3 (.cells #[.int .i64 0,.int .i64 0,.int .i64 0] 107)));have n0:=frozen_of_row w4 w3.heap.size 0 _ _ HZ4.out;have n1:=frozen_of_row w4 w3.heap.size 1 _ _ HZ4.out;have n2:=frozen_of_row w4 w3.heap.size 2 _ _ HZ4.out;have z0:=cell_of_row _ _ 0 _ _ _ HZ4.out;have z1:=cell_of_row _ _ 1 _ _ _ HZ4.out;have z2:=cell_of_row _ _ 2 _ _ _ HZ4.out))
  all_goals first
    | (
       have hZY':=hZY;go_wp2_with fail
       go_ret2
       have h5:=h3.kept (Only.of_below (S:=fun _=>False) g5) (fun q=>q) (fun _ _ q=>q);have o4:Only w w4 P:=((Only.of_below (S:=P) bz).tr (o3.mono (fun j q=>by rw [q];exact hx.1.1))).tr (Only.of_below g5)
       obtain ⟨h6,h7⟩:=at_end h5 (fun j q=>(h4 j q).1) o4 hwZ hZY hcZ hx.1.1 (.int .i64 v.1) (.int .i64 v.2.1) (.int .i64 v.2.2);exact ⟨rfl,h6,h7⟩)
    | (
       have hq4:=HZ4.out;go_wp2_with fail
       go_ret2
       have b5:=Only.of_below (S:=fun _=>False) g5;have h5:=(h3.kept ((Only.refl w3 (fun _=>False)).alloc _) (fun q=>q) (fun _ _ q=>q)).kept b5 (fun q=>q) (fun _ _ q=>q);have o4:Only w w4 P:=((((Only.of_below (S:=P) b1).drewN 1).tr (o3.mono (fun j q=>by rw [q];exact hx.1.1))).alloc _).tr (Only.of_below g5)
       obtain ⟨h6,h7⟩:=at_end h5 (fun j q=>(h4 j q).1) o4 (Nat.le_trans bd.size o3.size) (fun q=>Nat.lt_irrefl _ (h3.ob.lt _ q)) (fun q=>Nat.lt_irrefl w3.heap.size (by have:=lt_of_row h3.blk;rw [q] at this;exact this)) hx.1.1 (.int .i64 v.1) (.int .i64 v.2.1) (.int .i64 v.2.2)
       exact ⟨rfl,h6,h7⟩)
    | (
       go_wp2_with fail
       go_ret2
       have h5:=(h3.kept (Only.of_below (S:=fun _=>False) g5) (fun q=>q) (fun _ _ q=>q)).kept ((Only.refl w4 (fun _=>False)).alloc (.cells #[.int .i64 v.1,.int .i64 v.2.1,.int .i64 v.2.2] 107)) (fun q=>q) (fun _ _ q=>q);exact ⟨rfl,⟨hx.1.1,Or.inr ⟨r,Y,h5,fun j q=>(h4 j q).1⟩⟩,((((Only.of_below (S:=P) b1).drewN 1).tr (o3.mono (fun j q=>by rw [q];exact hx.1.1))).tr (Only.of_below g5)).alloc _⟩)
end Go.Proofs.YthdengocipfgiaaGreat.W.HT
namespace Go.Proofs.YthdengocipfgiaaGreat.W.HT
open Go.RowKit
theorem x_at (w:World) (c n:Nat) (A:K→Option Int) (X:Nat→Prop) (k:K) (hk:kw k) (hn:n<1073741824) (h:Tx w c n A X) :
  Calls Tryz.prog 22 #[.pointer (some ⟨c,0,none⟩),kv k] w fun e w'=>e=.returned (.tuple #[.int .i64 ((A k).getD 0),.bool (A k).isSome])∧∃ X',Tx w' c n A X'∧(∀ j,X' j→X j∨w.heap.size≤j)∧Only w w' X:=by
 refine (t_at w c n A k h.big hk hn (big_new X w)).mono ?_;rintro e w' ⟨rfl,h1,h2⟩;exact ⟨rfl,h.next h1 h2⟩
end Go.Proofs.YthdengocipfgiaaGreat.W.HT
namespace Go.Proofs.YthdengocipfgiaaGreat.W.C
open Go.RowKit Go.Maps Go.ChangeMaps Go.MapKept Go.Proofs.YthdengocipfgiaaGreat.W
theorem k_tat {w:World} {own:Nat→Option Tag} {y:Lay} {s:St} (h:Cor w own y s) (k:HT.K) (hk:HT.kw k) (hn:s.tn<1073741824):Calls Tryz.prog 22 #[ptr y.t,HT.kv k] w fun e w'=>e=.returned (.tuple #[.int .i64 ((s.T k).getD 0),.bool (s.T k).isSome])∧To w own y s w':=by
 refine (HT.x_at _ _ _ _ _ k hk hn (h.ob .tim)).mono ?_;rintro e w' ⟨rfl,X',h1,h2,h3⟩;exact ⟨rfl,To.of (h.tim h1 h2 h3)⟩
end Go.Proofs.YthdengocipfgiaaGreat.W.C
namespace Go.Proofs.YthdengocipfgiaaGreat.W.C
open Go.RowKit Go.Proofs.YthdengocipfgiaaGreat.W
theorem Inv.lasts {K e:Nat} {s:St} (h:Inv K e s):∀ i b,s.bx i=some b→i≤s.last:=fun i b hb=>(h.bx i b hb).2.2.1
theorem Pth.pv {s0 s:St} (P:Pth s0 s) (h:Pv s0):Pv s:=⟨P.tw h.tw,fun f=>P.no (h.no f),P.pu h.pu⟩
theorem keep_no {s:St} {K:Nat} (h:Inv (K+1000) 0 s) {f:Int} {g:Fu} (eg:s.fu.a f=some g):No f (s.keep f):=by
 unfold St.keep
 split
 ·rename_i hlt
  rw [St.G_of eg] at hlt ⊢;have:=win_ok g
  have:=h.now
  have hf:=h.fu f g eg;have hc:=h.cnt eg;obtain ⟨g',_,_,e1,_,e2,e3,_⟩:=Pth.fewer (.refl (s0:=s)) h eg (t:=s.now+g.win.2.2) (by omega) (by omega) _ (fun i hi=>drop_mem hi) (drop_nodup g.pi s.last g.keep.toNat) g.keep.toNat (by rw [List.length_drop,hc];omega) (by omega) _ 0 (Nat.zero_add _)
  intro g2 hg2;rw [List.drop_zero] at e1;rw [e1] at hg2;cases hg2;rw [e2,e3];omega
 ·rename_i h1
  rw [St.G_of eg] at h1;have h0:No f s:=fun g2 hg2=>by rw [eg] at hg2;cases hg2;omega
  split
  ·exact (Pth.more (.refl (s0:=s)) h eg (by omega)).no h0
  ·exact h0
theorem keep_pv {s:St} {K:Nat} (h:Inv (K+1000) 0 s) {f:Int} {g:Fu} (eg:s.fu.a f=some g) (tw:Tw s) (pu:Pu s) (no:∀ j,j≠f→No j s):Pv (s.keep f) :=
 have P:Pth s (s.keep f):=Pth.keep (K:=K) .refl h eg
 ⟨P.tw tw,fun j=>by
  by_cases e:j=f
  ·rw [e];exact keep_no h eg
  ·exact P.no (no j e),P.pu pu⟩
theorem account_pv {s:St} (P:Pv s) (e:Ev) (k:Int):Pv (s.account e).1∧Kl k s (s.account e).1:=by
 unfold St.account
 split
 ·exact ⟨P,Kl.same rfl⟩
 ·split
  ·exact ⟨P,Kl.same rfl⟩
  ·exact ⟨⟨P.tw,P.no,P.pu⟩,Kl.same rfl⟩
theorem func_pv {K:Nat} {s:St} (h:Inv (K+1000) 0 s) {ev:Ev} (hp:0≤ev.n∧0≤ev.a∧0≤ev.p) (P:Pv s):Pv (s.func ev).1∧Kl 2 s (s.func ev).1:=by
 unfold St.func
 split
 ·rename_i hz
  unfold funE at hz
  split at hz
  ·cases hz
  ·rename_i hfn
   split at hz
   ·cases hz
   ·rename_i htk
    split at hz
    ·cases hz
    ·rename_i hst
     have hfn:isFn ev=true:=by simpa using hfn
     unfold isFn at hfn;simp only [Bool.and_eq_true,decide_eq_true_eq] at hfn;obtain ⟨⟨⟨⟨⟨⟨⟨f1,f2⟩,f3⟩,f4⟩,f5⟩,f6⟩,f7⟩,f8⟩:=hfn
     have htk:(s.tk.a ev.a).isSome=true:=by
      cases q:s.tk.a ev.a with
      | none=>rw [q] at htk;exact absurd rfl htk
      | some v=>rfl
     have hnow:=h.now;dsimp only;have h1:Inv (K+1000) 0 ({ s with F:=funF s.A s.F ev.n ev.a ev.v }:St):={ h with }
     obtain ⟨g1,hg1⟩:∃ g1:Fu,{ (s.fu.a ev.n).getD (Fu.new ev.a ev.m) with cost:=ev.c,keep:=ev.p }=g1:=⟨_,rfl⟩
     have h2:Inv (K+1000) 0 (({ s with F:=funF s.A s.F ev.n ev.a ev.v }:St).setG ev.n g1):=by
      rw [←hg1]
      cases q:s.fu.a ev.n with
      | none =>
       have e0:(none:Option Fu).getD (Fu.new ev.a ev.m)=Fu.new ev.a ev.m:=rfl;rw [e0];exact h1.newG (f:=ev.n) (g:={ Fu.new ev.a ev.m with cost:=ev.c,keep:=ev.p }) q ⟨hp.1,f1⟩ rfl rfl ⟨hp.2.1,f2,f5,f6,by show 0≤ev.c;omega,f8,hp.2.2,f4,Int.le_refl 0,by show (0:Int)≤1000;omega,Int.le_refl (-1),by show (-1:Int)≤s.now;omega,Int.le_refl 0,by show (0:Int)≤4398046511104;omega,htk⟩
      | some g =>
       have e0:(some g).getD (Fu.new ev.a ev.m)=g:=rfl;rw [e0];obtain ⟨_,_,a1,a2,_,_,a3,a4,a5,a6,a7,a8,a9,a10,a11,a12,a13⟩:=h.fu _ g q;exact h1.setG (f:=ev.n) (g:=g) (g':={ g with cost:=ev.c,keep:=ev.p }) q rfl rfl rfl ⟨a1,a2,by show 0≤ev.c;omega,f8,hp.2.2,f4,a7,a8,a9,a10,a11,a12,a13⟩
     rw [hg1];have eg:=setG_at' ({ s with F:=funF s.A s.F ev.n ev.a ev.v }:St) ev.n g1
     refine ⟨keep_pv h2 eg P.tw P.pu (fun j hj g' hg'=>P.no j g' ?_),?_⟩
     ·rw [show (({ s with F:=funF s.A s.F ev.n ev.a ev.v }:St).setG ev.n g1).fu.a j=s.fu.a j from Tb.set_ne _ _ hj] at hg'
      exact hg'
     ·exact ((Pth.keep (K:=K) .refl h2 eg).kr (c:=false) (Kr.refl _ _) h2.lasts (fun q=>nomatch q)).kl (fun _=>Or.inr rfl) |>.of rfl rfl
 ·exact ⟨P,Kl.same rfl⟩
theorem all_pv {K:Nat} {s:St} (h:Inv (K+64000) 0 s) (P:Pv s) (k:Int):Pv (s.keepAll 64)∧Kl k s (s.keepAll 64):=by
 have A:Pth s (s.keepAll 64):=Pth.keepAll (K:=K) 64 .refl (h.mono (by omega) (Nat.le_refl _))
 exact ⟨A.pv P,(A.kr (c:=true) (Kr.refl _ _) h.lasts (fun _=>P.no)).kl (fun q=>nomatch q)⟩
theorem addHost_pv {K:Nat} {s:St} (h:Inv (K+64000) 0 s) (P:Pv s) (x n k:Int):Pv (s.addHost x n).1∧Kl k s (s.addHost x n).1:=by
 unfold St.addHost
 split
 ·rename_i hx
  have hc:=hx;unfold addC at hc
  split at hc
  ·cases hc
  ·rename_i hq
   split at hc
   ·cases hc
   ·rename_i hn
    have hi:isH x=true:=by
     cases q:isH x with
     | true=>rfl
     | false=>exact absurd (Or.inl q) hq
    have hr:=isH_iff.1 hi
    have hHn:s.H x=none:=by
     cases q:s.H x with
     | none=>rfl
     | some t=>rw [q] at hn;exact absurd rfl hn
    have h0:∀ i b,s.bx i=some b→upQ b.q=true→b.ho≠x:=fun i b hb hu e=>by
     have:=(h.onP i b hb hu).1
     rw [e,hHn] at this;cases this
    have hd:addH s.H x n=updZ s.H x (some (false,n.toNat,0)):=by unfold addH;rw [if_pos hx]
    have h1:=h.newPl hr h0
    have h2:=h1.hosts (x:=x) (o:=some (false,n.toNat,0)) (fun d z u q=>by
     cases q
     exact ⟨hr.1,hr.2,by omega,by omega,Nat.zero_le _,by rw [setP_at'];rfl,(useless (s:=s) h0).symm⟩) (fun q=>nomatch q)
    dsimp only;rw [hd]
    obtain ⟨a1,a2⟩:=all_pv (s:=({ s with H:=updZ s.H x (some (false,n.toNat,0)) }:St).setP x Pl.new) h2 ⟨P.tw,P.no,fun i b hb hu hp=>by
     show upB (updZ s.H x _) b.ho=true;unfold upB;rw [updZ_ne _ _ (h0 i b hb hu)];exact P.pu i b hb hu hp⟩ k
    exact ⟨a1,a2.of rfl rfl⟩
 ·exact ⟨P,Kl.same rfl⟩
theorem drainL_pv {K:Nat} {s0:St}:∀ (l:List Int) {s:St},Inv K 0 s→l.Nodup→(∀ i ∈ l,(s.mx.a i).isSome=true)→Tw s→(∀ f,No f s)→(∀ i b,s.bx i=some b→upQ b.q=true→b.p=true→upB s.H b.ho=true∨i ∈ l)→Kr false s0 s→Pv (s.drainL l)∧Kr false s0 (s.drainL l)
 | [],s,h,_,_,tw,no,pu,kr=>⟨⟨tw,no,fun i b hb hu hp=>(pu i b hb hu hp).elim id (fun q=>by cases q)⟩,kr⟩
 | i :: l,s,h,hn,hl,tw,no,pu,kr=>by
  obtain ⟨b,hb,hu⟩:=h.alive (hl i (by simp))
  have hid:=(h.bx i b hb).1;rw [List.nodup_cons] at hn;unfold St.drainL;rw [St.B_of hb]
  split
  ·rename_i hr
   have hb1:=unpin_B hb hid;have hnw:b.q≠.warm:=fun q=>by rw [q] at hr;cases hr
   refine drainL_pv l (h.unpin hb hu) hn.2 (fun j hj=>hl j (by simp [hj])) (fun j c hc hq hcp=>?_) (fun f g' hg'=>?_) (fun j c hc hcu hcp=>?_) ⟨kr.out,fun j b0 hb0 hu0=>?_,kr.la⟩
   ·by_cases e:j=i
    ·rw [e,hb1] at hc;cases hc;exact absurd hq hnw
    ·rw [unpin_bx hb hid e] at hc;exact tw j c hc hq hcp
   ·by_cases e:f=b.fn
    ·obtain ⟨g,eg,_⟩:=h.onF i b hb hu
     rw [e,show (s.unpin i).fu.a b.fn=some { g with pi:=g.pi.del i,lo:=g.lo.set i () } by
      show (s.fu.set (s.B i).fn _).a b.fn=_;rw [St.B_of hb,Tb.set_at,St.G_of eg]] at hg'
     cases hg'
     have h1:=no b.fn g eg;have h2:=del_le g.pi i;show ((g.pi.del i).n:Int)≤g.keep;omega
    ·rw [show (s.unpin i).fu.a f=s.fu.a f by
      show (s.fu.set (s.B i).fn _).a f=_;rw [St.B_of hb];exact Tb.set_ne _ _ e] at hg'
     exact no f g' hg'
   ·by_cases e:j=i
    ·rw [e,hb1] at hc;cases hc;cases hcp
    ·rw [unpin_bx hb hid e] at hc
     rcases pu j c hc hcu hcp with q | q
     ·exact Or.inl q
     ·rcases List.mem_cons.1 q with q | q
      ·exact absurd q e
      ·exact Or.inr q
   ·obtain ⟨b',hb',r⟩:=kr.bx j b0 hb0 hu0
    by_cases e:j=i
    ·rw [e,hb] at hb';cases hb'
     exact ⟨{ b with p:=false },by rw [e];exact hb1,fun _=>⟨(r hu).1,fun q=>nomatch q⟩⟩
    ·exact ⟨b',by rw [unpin_bx hb hid e];exact hb',r⟩
  ·rename_i hr
   obtain ⟨g1,g2⟩:=h.kg hb hu;refine drainL_pv l (h.kill hb hu) hn.2 (fun j hj=>?_) (g1.tw (fun j c _=>tw j c)) (fun f=>g1.no (no f)) (fun j c hc hcu hcp=>?_) (kr.kill g1 g2 hb hu (fun q=>hr (by rw [q];rfl)) (fun q=>nomatch q))
   ·show ((s.gone i).mx.a j).isSome=true
    rw [pos_of_gone hb,if_neg (fun (e:j=i)=>hn.1 (e ▸ hj))];exact hl j (by simp [hj])
   ·rw [g1.H]
    by_cases e:j=i
    ·obtain ⟨d,hd,_,hdp⟩:=g1.it
     rw [e,hd] at hc;cases hc;rw [hdp] at hcp;cases hcp
    ·rw [g1.bx j e] at hc
     rcases pu j c hc hcu hcp with q | q
     ·exact Or.inl q
     ·rcases List.mem_cons.1 q with q | q
      ·exact absurd q e
      ·exact Or.inr q
theorem leave_pv {s:St} (P:Pv s) (x:Int):Pv (s.leave x):=by
 obtain ⟨l1,l2,l3,l4,_⟩:=leave_all s x;refine ⟨fun i b hb hq hp=>?_,fun f g hg=>?_,fun i b hb hu hp=>?_⟩
 ·rw [l1] at hb;rw [l2];exact P.tw i b hb hq hp
 ·rw [l4] at hg;exact P.no f g hg
 ·rw [l1] at hb;rw [l3];exact P.pu i b hb hu hp
theorem drain_pv {K:Nat} {s:St} (h:Inv (K+64000) 0 s) (P:Pv s) (x:Int):Pv (s.drain x).1∧Kl 4 s (s.drain x).1:=by
 unfold St.drain
 split
 ·rename_i hx
  have hH:∃ z u,s.H x=some (false,z,u):=by
   unfold drC at hx
   cases q:s.H x with
   | none=>rw [q] at hx;simp at hx
   | some t =>
    obtain ⟨d,z,u⟩:=t;rw [q] at hx
    cases d with
    | false=>exact ⟨z,u,rfl⟩
    | true=>simp at hx
  obtain ⟨z,u,hH⟩:=hH;have hho:=h.ho _ _ _ _ hH;obtain ⟨p,ep⟩:=Option.isSome_iff_exists.1 hho.2.2.2.2.2.1;rw [St.P_of ep];have hd:drH s.H x=updZ s.H x (lv true z u):=by unfold drH;rw [hH]
  rw [hd]
  have h1:Inv (K+64000) 0 { s with H:=updZ s.H x (lv true z u) }:=h.hosts (x:=x) (o:=lv true z u) (fun d' z' u' q=>by
   unfold lv at q
   split at q
   ·cases q
   ·cases q;exact hho) (fun q=>by
   unfold lv at q
   split at q
   ·rename_i hu0
    have hu0:=hu0.2;subst hu0;exact h.free0 hH
   ·cases q)
  dsimp only
  obtain ⟨a1,a2⟩:=drainL_pv (s0:=s) (ups p.bo s.last) h1 (ups_nodup _ _) (h.on_mx ep) P.tw P.no (fun i b hb hu hp=>by
   by_cases e:b.ho=x
   ·right
    obtain ⟨_,p',ep',hbo⟩:=h.onP i b hb hu;rw [e,ep] at ep';cases ep';have:=h.bx i b hb
    exact mem_ups.2 ⟨by omega,by omega,hbo⟩
   ·left
    show upB (updZ s.H x _) b.ho=true;unfold upB;rw [updZ_ne _ _ e];exact P.pu i b hb hu hp) ⟨(Kr.refl false s).out,(Kr.refl false s).bx,(Kr.refl false s).la⟩
  have h2:=(h1.drainL (ups p.bo s.last) (ups_nodup _ _) (h.on_mx ep)).leave x;have A:Pth _ _:=Pth.keepAll (K:=K) 64 .refl (h2.mono (by omega) (Nat.le_refl _))
  exact ⟨A.pv (leave_pv a1 x),(A.kr (a2.leave x) h.lasts (fun q=>nomatch q)).kl (fun _=>Or.inl rfl)⟩
 ·exact ⟨P,Kl.same rfl⟩
theorem goneL_pv {K:Nat} {s0:St} {c:Bool}:∀ (l:List Int) {s:St},Inv K 0 s→l.Nodup→(∀ i ∈ l,(s.mx.a i).isSome=true)→Pv s→Kr c s0 s→Pv (s.goneL l)∧Kr c s0 (s.goneL l)
 | [],s,h,_,_,P,kr=>⟨P,kr⟩
 | i :: l,s,h,hn,hl,P,kr=>by
  obtain ⟨b,hb,hu⟩:=h.alive (hl i (by simp))
  rw [List.nodup_cons] at hn;obtain ⟨g1,g2⟩:=h.gg hb hu;refine goneL_pv l (h.goneI hb hu) hn.2 (fun j hj=>?_) ⟨g1.tw (fun j c _=>P.tw j c),fun f=>g1.no (P.no f),g1.pu (fun j c _=>P.pu j c)⟩ (kr.gone g1 g2);rw [pos_of_gone hb,if_neg (fun (e:j=i)=>hn.1 (e ▸ hj))];exact hl j (by simp [hj])
theorem fail_pv {K:Nat} {s:St} (h:Inv (K+64000) 0 s) (P:Pv s) (x k:Int):Pv (s.fail x).1∧Kl k s (s.fail x).1:=by
 unfold St.fail
 split
 ·rename_i hx
  obtain ⟨t,ht⟩:=Option.isSome_iff_exists.1 hx;obtain ⟨d,z,u⟩:=t;obtain ⟨p,ep⟩:=Option.isSome_iff_exists.1 (h.ho _ _ _ _ ht).2.2.2.2.2.1;rw [St.P_of ep];obtain ⟨h1,h2⟩:=h.goneL (ups p.bo s.last) (ups_nodup _ _) (h.on_mx ep);obtain ⟨a1,a2⟩:=goneL_pv (c:=true) (ups p.bo s.last) h (ups_nodup _ _) (h.on_mx ep) P (Kr.refl true s);dsimp only
  have hne:∀ i b,(s.goneL (ups p.bo s.last)).bx i=some b→upQ b.q=true→b.ho≠x:=fun i b hb hq e=>by
   obtain ⟨k1,k2⟩:=h2 i b hb hq;obtain ⟨_,p',ep',hbo⟩:=h.onP i b k1 hq;rw [e,ep] at ep';cases ep';have:=h.bx i b k1
   exact k2 (mem_ups.2 ⟨by omega,by omega,hbo⟩)
  have h3:=(h1.hosts (x:=x) (o:=none) (fun _ _ _ q=>nomatch q) (fun _=>hne)).leave x
  have P3:Pv ({ s.goneL (ups p.bo s.last) with H:=updZ (s.goneL (ups p.bo s.last)).H x none }:St):=⟨a1.tw,a1.no,fun i b hb hu hp=>by
   show upB (updZ (s.goneL (ups p.bo s.last)).H x none) b.ho=true;unfold upB;rw [updZ_ne _ _ (hne i b hb hu)];exact a1.pu i b hb hu hp⟩
  have k3:Kr true s ({ s.goneL (ups p.bo s.last) with H:=updZ (s.goneL (ups p.bo s.last)).H x none }:St):=⟨a2.out,a2.bx,a2.la⟩
  have A:Pth _ _:=Pth.keepAll (K:=K) 64 .refl (h3.mono (by omega) (Nat.le_refl _))
  exact ⟨A.pv (leave_pv P3 x),(A.kr (k3.leave x) h.lasts (fun _=>(leave_pv P3 x).no)).kl (fun q=>nomatch q)⟩
 ·exact ⟨P,Kl.same rfl⟩
theorem tick_pv {K:Nat} {s:St} (h:Inv (K+64064) 0 s) (P:Pv s) (k:Int):Pv s.tick∧Kl k s s.tick:=by
 unfold St.tick
 split
 ·exact ⟨P,Kl.same rfl⟩
 ·rename_i hn
  have h1:=h.tick1 hn;dsimp only;obtain ⟨s1,hs1⟩:∃ s1:St,({ s with now:=s.now+1,tk:=⟨fun a=>(s.tk.a a).map tickB,s.tk.n⟩ }:St)=s1:=⟨_,rfl⟩;have e1:s1.bx=s.bx:=by rw [←hs1]
  have e2:s1.out=s.out:=by rw [←hs1]
  have P1:Pv s1:=by rw [←hs1];exact ⟨P.tw,P.no,P.pu⟩
  rw [hs1] at h1 ⊢;have hb:=btN_le s1.T;have h2:Inv (K+64000+btN s1.T) 0 s1:=h1.mono (by omega) (Nat.le_refl _)
  have A:Pth s1 (s1.dues s.tn):=Pth.dues (K:=K+64000) _ .refl h2;have h3:Inv (K+1000*64) 0 (s1.dues s.tn):=(Inv.dues (K:=K+64000) s.tn h2).mono (by omega) (Nat.le_refl _)
  have B:Pth s1 ((s1.dues s.tn).keepAll 64):=Pth.keepAll (K:=K) 64 A h3;have k1:=B.kr (c:=true) (Kr.refl true s1) h1.lasts (fun _=>P1.no);have k2:Kl k s1 ((s1.dues s.tn).keepAll 64):=k1.kl (fun q=>nomatch q);refine ⟨B.pv P1,?_⟩;exact k2.of e1 e2
end Go.Proofs.YthdengocipfgiaaGreat.W.C
namespace Go.Proofs.YthdengocipfgiaaGreat.W.C
open Go.RowKit Go.Proofs.YthdengocipfgiaaGreat.W
theorem idle_pv {s:St} {i t:Int} {b:Bo} {g:Fu} (hb:s.bx i=some b) (hi:b.id=i) (hq:b.q=.warm) (eg:s.fu.a b.fn=some g)
  (tw:∀ j c,j≠i→s.bx j=some c→c.q=.warm→c.p=false→(s.T (0,j)).isSome=true) (no:∀ f,No f s) (pu:Pu s) :
  Pv (s.idle i t)∧((s.idle i t).out=s.out∨(s.idle i t).out=s.out ++ [(false,i,b.fn,b.ho)]):=by
 unfold St.idle
 split
 ·obtain ⟨g1,g2⟩:=kill_gn hb hi (warm_up hq) eg
  exact ⟨⟨g1.tw tw,fun f=>g1.no (no f),g1.pu (fun j c _=>pu j c)⟩,Or.inr g2⟩
 ·refine ⟨⟨fun j c hc hcq hcp=>?_,no,pu⟩,Or.inl rfl⟩
  show (HT.updZ s.T (0,i) (some t) (0,j)).isSome=true
  by_cases e:j=i
  ·rw [e,HT.updZ_same];rfl
  ·rw [HT.updZ_ne _ _ (k0 e)];exact tw j c e hc hcq hcp
theorem booted_pv {K e:Nat} {s:St} (h:Inv K e s) (P:Pv s) {i:Int} {b:Bo} (hb:s.bx i=some b) (hu:upQ b.q=true) (k:Int):Pv (s.booted i).1∧Kl k s (s.booted i).1:=by
 obtain ⟨g,eg,_⟩:=h.onF i b hb hu;unfold St.booted;rw [St.B_of hb]
 split
 ·rename_i hd
  have hbt:b.q=.boot∨b.q=.bound:=by
   obtain ⟨i',f',x',m',q',p',t'⟩:=b
   cases q' <;> first | exact Or.inl rfl | exact Or.inr rfl | (exact absurd hd (by simp [nx]))
  have hid:=(h.bx i b hb).1;have hs:=nx_same (k:=1) (b:=b) (now:=s.now) (by decide)
  obtain ⟨b',hb'⟩:∃ b',(nx 1 b s.now).1=b':=⟨_,rfl⟩;rw [hb'] at hs;rw [hb'];have hid':b'.id=i:=hs.1.trans hid;have hb1:(s.setB b').bx i=some b':=setB_bx hid';have hne:∀ j,j≠i→(s.setB b').bx j=s.bx j:=fun j hj=>setB_ne (by rw [hid'];exact hj)
  have pu:Pu (s.setB b'):=fun j c hc hcu hcp=>by
   show upB s.H c.ho=true
   by_cases e:j=i
   ·rw [e,hb1] at hc;cases hc
    rw [hs.2.2.1];exact P.pu i b hb hu (by rw [←hs.2.2.2.2];exact hcp)
   ·rw [hne j e] at hc;exact P.pu j c hc hcu hcp
  have tw:∀ j c,j≠i→(s.setB b').bx j=some c→c.q=.warm→c.p=false→(s.T (0,j)).isSome=true:=fun j c hj hc=>by
   rw [hne j hj] at hc;exact P.tw j c hc
  dsimp only
  split
  ·rename_i hq
   rw [St.B_of hb1] at hq
   have hw:b'.q=.warm:=by
    have:=hq.1
    cases r:b'.q <;> rw [r] at this <;> first | rfl | cases this
   obtain ⟨a1,a2⟩:=idle_pv (s:={ s.setB b' with ah:=s.ah.del i }) (t:=(s.ah.a i).getD (s.now+(s.G b.fn).win.2.2)) (g:=g) hb1 hid' hw (by rw [hs.2.1];exact eg) tw P.no pu
   refine ⟨a1,?_⟩
   rcases a2 with a2 | a2
   ·exact Kl.same a2
   ·exact Kl.one hb a2 (fun q=>by rw [←hs.2.2.2.2,hq.2] at q;cases q) (fun q=>by rcases hbt with t | t <;> rw [t] at q <;> cases q)
  ·rename_i hq
   rw [St.B_of hb1] at hq;refine ⟨⟨fun j c hc hcq hcp=>?_,P.no,pu⟩,Kl.same rfl⟩
   by_cases e:j=i
   ·rw [e] at hc
    have hc2:(s.setB b').bx i=some c:=hc;rw [hb1] at hc2;cases hc2;exact absurd ⟨by rw [hcq];rfl,hcp⟩ hq
   ·exact tw j c e hc hcq hcp
 ·exact ⟨P,Kl.same rfl⟩
theorem rest_pv {s:St} {i:Int} {b:Bo} {g:Fu} (hb:s.bx i=some b) (hi:b.id=i) (hq:b.q=.warm) (eg:s.fu.a b.fn=some g)
  (tw:∀ j c,j≠i→s.bx j=some c→c.q=.warm→c.p=false→(s.T (0,j)).isSome=true) (no:∀ f,No f s) (pu:Pu s) :
  Pv (s.rest i)∧((s.rest i).out=s.out∨(s.rest i).out=s.out ++ [(false,i,b.fn,b.ho)]):=by
 unfold St.rest;rw [St.B_of hb];dsimp only
 split
 ·exact idle_pv hb hi hq eg tw no pu
 ·obtain ⟨s1,hs1⟩:∃ s1,(s.setT (1,b.fn) (s.now+(s.G b.fn).win.2.1)).setG b.fn { s.G b.fn with unt:=s.now+(s.G b.fn).win.2.2 }=s1:=⟨_,rfl⟩
  rw [hs1];have e1:s1.bx=s.bx:=by rw [←hs1];rfl
  have e2:s1.out=s.out:=by rw [←hs1];rfl
  have e3:s1.H=s.H:=by rw [←hs1];rfl
  have e4:∀ j,s1.T (0,j)=s.T (0,j):=fun j=>by
   rw [←hs1];show HT.updZ s.T (1,b.fn) (some (s.now+(s.G b.fn).win.2.1)) (0,j)=_;exact HT.updZ_ne _ _ (fun q=>k10 q.symm)
  have e5:s1.fu.a b.fn=some { g with unt:=s.now+g.win.2.2 }:=by rw [←hs1];rw [St.G_of eg];exact setG_at' _ _ _
  have e6:∀ f,f≠b.fn→s1.fu.a f=s.fu.a f:=fun f hf=>by rw [←hs1];exact Tb.set_ne _ _ hf
  obtain ⟨g1,g2⟩:=kill_gn (s:=s1) (by rw [e1];exact hb) hi (warm_up hq) e5
  refine ⟨⟨g1.tw (fun j c hj hc hcq hcp=>by rw [e4];rw [e1] at hc;exact tw j c hj hc hcq hcp),fun f=>g1.no (fun g' hg'=>?_),g1.pu (fun j c _ hc hcu hcp=>by rw [e3];rw [e1] at hc;exact pu j c hc hcu hcp)⟩,Or.inr (by rw [g2,e2])⟩
  by_cases e:f=b.fn
  ·rw [e,e5] at hg';cases hg'
   exact no b.fn g eg
  ·rw [e6 f e] at hg';exact no f g' hg'
theorem done_pv {K e:Nat} {s:St} (h:Inv K e s) (P:Pv s) {i:Int} {b:Bo} (hb:s.bx i=some b) (hu:upQ b.q=true):Pv (s.done i).1∧Kl 9 s (s.done i).1:=by
 obtain ⟨g,eg,_⟩:=h.onF i b hb hu;unfold St.done;rw [St.B_of hb]
 split
 ·rename_i hd
  have hid:=(h.bx i b hb).1
  have hbusy:b.q=.busy:=by
   obtain ⟨i',f',x',m',q',p',t'⟩:=b
   cases q' <;> first | rfl | (exact absurd hd (by simp [nx]))
  have hb'q:(nx 2 b s.now).1={ b with q:=.warm,t:=s.now }:=by
   obtain ⟨i',f',x',m',q',p',t'⟩:=b;have hq:q'=.busy:=hbusy;subst hq;rfl
  obtain ⟨b',hb'⟩:∃ b',(nx 2 b s.now).1=b':=⟨_,rfl⟩;rw [hb'] at hb'q;rw [hb'];have e1:b'.id=i:=by rw [hb'q];exact hid
  have e2:b'.fn=b.fn:=by rw [hb'q]
  have e3:b'.ho=b.ho:=by rw [hb'q]
  have e4:b'.q=.warm:=by rw [hb'q]
  have e5:b'.p=b.p:=by rw [hb'q]
  obtain ⟨s1,hs1⟩:∃ s1,(s.setB b').endC b.fn=s1:=⟨_,rfl⟩;have hb1:s1.bx i=some b':=by rw [←hs1];exact setB_bx e1
  have hne:∀ j,j≠i→s1.bx j=s.bx j:=fun j hj=>by rw [←hs1];exact setB_ne (by rw [e1];exact hj)
  have hT:s1.T=s.T:=by rw [←hs1];rfl
  have hH:s1.H=s.H:=by rw [←hs1];rfl
  have ho:s1.out=s.out:=by rw [←hs1];rfl
  have eg1:s1.fu.a b.fn=some { g with ended:=s.now }:=by
   rw [←hs1];show ((s.setB b').fu.set b.fn { (s.setB b').G b.fn with ended:=s.now }).a b.fn=_
   rw [Tb.set_at,show (s.setB b').G b.fn=g from St.G_of eg]
  have eg2:∀ f,f≠b.fn→s1.fu.a f=s.fu.a f:=fun f hf=>by rw [←hs1];exact Tb.set_ne _ _ hf
  have no:∀ f,No f s1:=fun f g' hg'=>by
   by_cases e:f=b.fn
   ·rw [e,eg1] at hg';cases hg'
    exact P.no b.fn g eg
   ·rw [eg2 f e] at hg';exact P.no f g' hg'
  have pu:Pu s1:=fun j c hc hcu hcp=>by
   rw [hH]
   by_cases e:j=i
   ·rw [e,hb1] at hc;cases hc
    rw [e3];exact P.pu i b hb hu (by rw [←e5];exact hcp)
   ·rw [hne j e] at hc;exact P.pu j c hc hcu hcp
  have tw:∀ j c,j≠i→s1.bx j=some c→c.q=.warm→c.p=false→(s1.T (0,j)).isSome=true:=fun j c hj hc=>by
   rw [hne j hj] at hc;rw [hT];exact P.tw j c hc
  dsimp only;rw [hs1]
  split
  ·rename_i hup
   obtain ⟨g1,g2⟩:=kill_gn hb1 e1 (warm_up e4) (by rw [e2];exact eg1)
   refine ⟨⟨g1.tw tw,fun f=>g1.no (no f),g1.pu (fun j c _=>pu j c)⟩,Kl.one hb (by rw [g2,ho]) (fun q=>?_) (fun _=>rfl)⟩
   have:=P.pu i b hb hu q
   rw [hup] at this;cases this
  ·split
   ·rename_i hp
    refine ⟨⟨fun j c hc hcq hcp=>?_,no,pu⟩,Kl.same ho⟩
    by_cases e:j=i
    ·rw [e,hb1] at hc;cases hc
     rw [e5,hp] at hcp;cases hcp
    ·exact tw j c e hc hcq hcp
   ·rename_i hp
    obtain ⟨a1,a2⟩:=rest_pv hb1 e1 e4 (by rw [e2];exact eg1) tw no pu
    refine ⟨a1,?_⟩
    rcases a2 with a2 | a2
    ·exact Kl.same (a2.trans ho)
    ·exact Kl.one hb (by rw [a2,ho]) (fun q=>absurd q hp) (fun _=>rfl)
 ·exact ⟨P,Kl.same rfl⟩
theorem tend_pv {K:Nat} {s:St} (h:Inv (K+1000) 0 s) (P:Pv s) (ev:Ev):Pv (s.tend ev).1∧Kl ev.k s (s.tend ev).1:=by
 unfold St.tend
 split
 ·rename_i hm
  obtain ⟨b,hb,hu⟩:=h.alive hm
  split
  ·exact booted_pv h P hb hu _
  ·split
   ·rename_i h9
    rw [h9];exact done_pv h P hb hu
   ·obtain ⟨g,eg,_⟩:=h.onF _ b hb hu
    have h1:=h.goneI hb hu;have hs:=gone_some (f:=b.fn) hb (by rw [eg];rfl)
    obtain ⟨g1,eg1⟩:=Option.isSome_iff_exists.1 hs;obtain ⟨q1,q2⟩:=h.gg hb hu;rw [St.B_of hb];have P1:Pv (s.gone ev.n):=⟨q1.tw (fun j c _=>P.tw j c),fun f=>q1.no (P.no f),q1.pu (fun j c _=>P.pu j c)⟩;have A:Pth (s.gone ev.n) ((s.gone ev.n).keep b.fn):=Pth.keep (K:=K) .refl h1 eg1;exact ⟨A.pv P1,(A.kr (c:=true) ((Kr.refl true s).gone q1 q2) h.lasts (fun _=>P1.no)).kl (fun q=>nomatch q)⟩
 ·exact ⟨P,Kl.same rfl⟩
theorem begin_pv {K e:Nat} {s:St} (h:Inv K e s) (P:Pv s) {i:Int} {b:Bo} (hb:s.bx i=some b) (hu:upQ b.q=true) {f:Int} (hf:b.fn=f):Pv (s.begin f i)∧(s.begin f i).out=s.out:=by
 subst hf;obtain ⟨g,eg,_⟩:=h.onF i b hb hu;have hid:=(h.bx i b hb).1;obtain ⟨c1,c2,c3,c4,c5,c6,c7,c8,c9⟩:=calledG_all g s.now (busy s.F b.fn == 0);unfold St.begin;rw [St.G_of eg];dsimp only;obtain ⟨s1,hs1⟩:∃ s1,(s.setG b.fn (calledG g s.now (busy s.F b.fn == 0))).delT (1,b.fn)=s1:=⟨_,rfl⟩;rw [hs1];obtain ⟨s3,hs3⟩:∃ s3,({ s1 with F:=begF s1.A s1.F b.fn }:St).hold i=s3:=⟨_,rfl⟩;rw [hs3];have hb3:s3.bx=s.bx:=by rw [←hs3,←hs1];rfl
 have hB3:s3.B i=b:=by unfold St.B;rw [hb3,hb];rfl
 have hH:s3.H=s.H:=by rw [←hs3,←hs1];rfl
 have ho:s3.out=s.out:=by rw [←hs3,←hs1];rfl
 have hT:∀ j,j≠i→s3.T (0,j)=s.T (0,j):=fun j hj=>by
  rw [←hs3];show HT.updZ s1.T (0,i) none (0,j)=_;rw [HT.updZ_ne _ _ (k0 hj),←hs1];show HT.updZ s.T (1,b.fn) none (0,j)=_;exact HT.updZ_ne _ _ (fun q=>k10 q.symm)
 have hfu:s3.fu=s1.fu:=by rw [←hs3];rfl
 rw [hB3];have hsm:=nx_same (k:=0) (b:=b) (now:=s.now) (by decide)
 have hnw:(nx 0 b s.now).1.q≠.warm:=by
  obtain ⟨i',f',x',m',q',p',t'⟩:=b
  cases q' <;> exact fun q=>nomatch q
 obtain ⟨b',hb'⟩:∃ b',(nx 0 b s.now).1=b':=⟨_,rfl⟩;rw [hb'] at hsm hnw;rw [hb'];have hid':b'.id=i:=hsm.1.trans hid;have hb1:(s3.setB b').bx i=some b':=setB_bx hid';have hne:∀ j,j≠i→(s3.setB b').bx j=s.bx j:=fun j hj=>by rw [setB_ne (by rw [hid'];exact hj),hb3]
 refine ⟨⟨fun j c hc hcq hcp=>?_,fun f g' hg'=>?_,fun j c hc hcu hcp=>?_⟩,ho⟩
 ·by_cases e:j=i
  ·rw [e,hb1] at hc;cases hc;exact absurd hcq hnw
  ·rw [hne j e] at hc
   show (s3.T (0,j)).isSome=true;rw [hT j e];exact P.tw j c hc hcq hcp
 ·have hg2:s3.fu.a f=some g':=hg'
  rw [hfu,←hs1] at hg2
  by_cases e:f=b.fn
  ·rw [e,show ((s.setG b.fn (calledG g s.now (busy s.F b.fn == 0))).delT (1,b.fn)).fu.a b.fn=_ from setG_at' _ _ _] at hg2
   cases hg2
   rw [c7,c4];exact P.no b.fn g eg
  ·rw [show ((s.setG b.fn (calledG g s.now (busy s.F b.fn == 0))).delT (1,b.fn)).fu.a f=s.fu.a f from Tb.set_ne _ _ e] at hg2
   exact P.no f g' hg2
 ·show upB s3.H c.ho=true
  rw [hH]
  by_cases e:j=i
  ·rw [e,hb1] at hc;cases hc
   rw [hsm.2.2.1];exact P.pu i b hb hu (by rw [←hsm.2.2.2.2];exact hcp)
  ·rw [hne j e] at hc;exact P.pu j c hc hcu hcp
theorem cold_pv {K:Nat} {s:St} (h:Inv (K+1) 0 s) (P:Pv s) {f:Int} {g:Fu} (eg:s.fu.a f=some g) (k:Int):Pv (s.cold f).1∧Kl k s (s.cold f).1:=by
 unfold St.cold;rw [St.G_of eg];dsimp only
 split
 ·exact ⟨P,Kl.same rfl⟩
 ·obtain ⟨h1,h2,h3,_⟩:=h.room g.mem
  have A:Pth s (s.room g.mem).1:=Pth.room .refl h g.mem
  cases q:s.room g.mem with
  | mk s1 o =>
   rw [q] at h1 h2 h3 A;have kr:=A.kr (c:=true) (Kr.refl _ _) h.lasts (fun _=>P.no)
   cases o with
   | none=>exact ⟨A.pv P,kr.kl (fun q=>nomatch q)⟩
   | some x =>
    obtain ⟨k1,k2⟩:=h2 x rfl;obtain ⟨g',eg',_,hm,_⟩:=h3 f g eg;have hf:=h.fu _ _ eg;have P1:=A.pv P;obtain ⟨s2,hs2⟩:∃ s2:St,({ s1 with tk:=s1.tk.set g.acc (((s.tk.a g.acc).getD (0,0,0)).1,((s.tk.a g.acc).getD (0,0,0)).2.1,((s.tk.a g.acc).getD (0,0,0)).2.2-1) }:St)=s2:=⟨_,rfl⟩;have h4:Inv (K+1) 0 s2:=by rw [←hs2];exact h1.tkS _ (by omega)
    have P2:Pv s2:=by rw [←hs2];exact ⟨P1.tw,P1.no,P1.pu⟩
    have kr2:Kr true s s2:=by rw [←hs2];exact ⟨kr.out,kr.bx,kr.la⟩
    have e2:s2.fu.a f=some g':=by rw [←hs2];exact eg'
    have e3:s2.H=s1.H:=by rw [←hs2]
    have B:Pth s2 (s2.boot f x):=.boot .refl h4 e2 (by rw [e3];exact k1) (by rw [e3,hm];exact k2)
    have h5:=h4.boot e2 (by rw [e3];exact k1) (by rw [e3,hm];exact k2)
    dsimp only;rw [hs2];have hb:(s2.boot f x).bx (s2.boot f x).last=some ⟨s2.last+1,f,x,(s2.G f).mem,.boot,false,s2.now⟩:=updZ_same _ _ _;obtain ⟨a1,a2⟩:=begin_pv h5 (B.pv P2) hb rfl rfl;exact ⟨a1,((B.kr kr2 h.lasts (fun _=>P2.no)).kl (fun q=>nomatch q)).then a2⟩
theorem call_pv {K:Nat} {s:St} (h:Inv (K+1) 0 s) (P:Pv s) (f k:Int):Pv (s.call f).1∧Kl k s (s.call f).1:=by
 unfold St.call
 split
 ·rename_i hf
  obtain ⟨g,eg⟩:=Option.isSome_iff_exists.1 hf
  split
  ·exact ⟨P,Kl.same rfl⟩
  ·split
   ·exact ⟨P,Kl.same rfl⟩
   ·cases q:s.fresh f with
    | none=>exact cold_pv h P eg k
    | some i =>
     obtain ⟨b,hb,hu,hbf,_⟩:=h.fresh eg q;obtain ⟨a1,a2⟩:=begin_pv h P hb hu hbf;exact ⟨a1,Kl.same a2⟩
 ·exact ⟨P,Kl.same rfl⟩
theorem answer_pv {K:Nat} {s:St} (h:Inv (K+64064) 0 s) (P:Pv s) {ev:Ev} (hp:0≤ev.n∧0≤ev.a∧0≤ev.p):Pv (s.answer ev).1∧Kl ev.k s (s.answer ev).1:=by
 unfold St.answer
 split
 ·have h1:Inv (K+1) 0 s:=h.mono (by omega) (Nat.le_refl _)
  exact call_pv h1 P _ _
 ·dsimp only
  unfold St.turn;have h1:Inv (K+1000) 0 s:=h.mono (by omega) (Nat.le_refl _)
  have h2:Inv (K+64000) 0 s:=h.mono (by omega) (Nat.le_refl _)
  split
  ·exact account_pv P _ _
  ·split
   ·rename_i e;rw [e];exact func_pv h1 hp P
   ·split
    ·exact addHost_pv h2 P _ _ _
    ·split
     ·rename_i e;rw [e];exact drain_pv h2 P _
     ·split
      ·exact fail_pv h2 P _ _
      ·split
       ·exact tend_pv h1 P _
       ·dsimp only;exact tick_pv h P _
theorem best_ex (s:St):∀ l:List Int,l≠[]→∃ i ∈ l,∀ j ∈ l,(s.B j).t<(s.B i).t∨((s.B j).t=(s.B i).t∧i≤j)
 | [],h=>absurd rfl h
 | [i],_=>⟨i,by simp,fun j hj=>by rw [List.mem_singleton] at hj;subst hj;exact Or.inr ⟨rfl,Int.le_refl _⟩⟩
 | i :: k :: l,_=>by
  obtain ⟨m,hm,hb⟩:=best_ex s (k :: l) (by simp)
  by_cases q:(s.B i).t<(s.B m).t∨((s.B i).t=(s.B m).t∧m≤i)
  ·refine ⟨m,List.mem_cons_of_mem _ hm,fun j hj=>?_⟩
   rcases List.mem_cons.1 hj with e | hj
   ·rw [e];exact q
   ·exact hb j hj
  ·refine ⟨i,by simp,fun j hj=>?_⟩
   rcases List.mem_cons.1 hj with e | hj
   ·rw [e];exact Or.inr ⟨rfl,Int.le_refl _⟩
   ·have:=hb j hj
    omega
theorem fresh_some {K e:Nat} {s:St} (h:Inv K e s) {f i:Int} {b:Bo} (hb:s.bx i=some b) (hf:b.fn=f) (hq:b.q=.warm):s.fresh f≠none:=by
 obtain ⟨g,eg,_,hpi,hlo⟩:=h.onF i b hb (warm_up hq);rw [hf] at eg;obtain ⟨ok,hok⟩:∃ ok:Int→Bool,ok=fun j=>((g.pi.a j).isSome || (g.lo.a j).isSome) && (s.B j).q.idle:=⟨_,rfl⟩
 have hup:∀ j,ok j=true→j ∈ ups s.mx s.last:=fun j hj=>by
  rw [hok] at hj;simp only [Bool.and_eq_true,Bool.or_eq_true] at hj
  have:∃ c,s.bx j=some c∧upQ c.q=true:=by
   rcases hj.1 with q | q
   ·obtain ⟨c,h1,h2,_⟩:=h.pi f g j eg q;exact ⟨c,h1,h2⟩
   ·obtain ⟨c,h1,h2,_⟩:=h.lo f g j eg q;exact ⟨c,h1,h2⟩
  obtain ⟨c,h1,h2⟩:=this;have:=h.bx j c h1
  exact mem_ups.2 ⟨by omega,by omega,h.mx_of h1 h2⟩
 have hi:ok i=true:=by
  rw [hok];simp only [Bool.and_eq_true,Bool.or_eq_true];refine ⟨?_,by rw [St.B_of hb,hq];rfl⟩
  cases q:b.p with
  | true=>exact Or.inl (by rw [hpi,q])
  | false=>exact Or.inr (by rw [hlo,q];rfl)
 obtain ⟨m,hm,hbest⟩:=best_ex s ((ups s.mx s.last).filter ok) (fun q=>by
  have:i ∈ (ups s.mx s.last).filter ok:=List.mem_filter.2 ⟨hup i hi,hi⟩
  rw [q] at this;cases this)
 have hmo:=(List.mem_filter.1 hm).2
 have hF:∃ i,Fresh s f i:=by
  refine ⟨m,?_⟩;unfold Fresh;rw [St.G_of eg];rw [hok] at hmo;simp only [Bool.and_eq_true,Bool.or_eq_true] at hmo;refine ⟨hmo.1,hmo.2,fun j h1 h2=>hbest j ?_⟩
  have hj:ok j=true:=by
   rw [hok];simp only [Bool.and_eq_true,Bool.or_eq_true];exact ⟨h1,h2⟩
  exact List.mem_filter.2 ⟨hup j hj,hj⟩
 unfold St.fresh;rw [dif_pos hF];exact fun q=>nomatch q
theorem call_cold {K e:Nat} {s:St} (h:Inv K e s) {f:Int} (hc:(s.call f).2.1=3):∀ i b,s.bx i=some b→b.fn=f→b.q≠.warm:=by
 intro i b hb hf hq;have hn:=fresh_some h hb hf hq;unfold St.call at hc
 split at hc
 ·split at hc
  ·exact absurd (show (4:Int)=3 from hc) (by omega)
  ·split at hc
   ·exact absurd (show (4:Int)=3 from hc) (by omega)
   ·cases q:s.fresh f with
    | none=>exact hn q
    | some i =>
     rw [q] at hc;exact absurd (show (2:Int)=3 from hc) (by omega)
 ·exact absurd (show (1:Int)=3 from hc) (by omega)
end Go.Proofs.YthdengocipfgiaaGreat.W.C
namespace Go.Proofs.YthdengocipfgiaaGreat.W.C
open Go.RowKit Go.Proofs.YthdengocipfgiaaGreat.W
attribute [local go_sem] Oper.semAt_some
theorem Inv.doL {K:Nat} {s:St} (h:Inv (K+64064) 0 s) (e:Ev):(s.doE e).2.2.length<1073741824:=by
 by_cases q:right e
 ·rw [St.doE_right q]
  obtain ⟨k,n,l,z,r,a,m,c,v,p⟩:=e;have:=(right_sm q).2
  have hI:=h.ansI (ev:=⟨k,n,l,z,r,a,m,c,v,p⟩) ⟨this.1.1,this.2.1,this.2.2⟩;have h1:=hI.out;have h2:=hI.last;show (s.answer ⟨k,n,l,z,r,a,m,c,v,p⟩).1.out.length<_;omega
 ·rw [St.doE_not q];simp
end Go.Proofs.YthdengocipfgiaaGreat.W.C
namespace Go.Proofs.YthdengocipfgiaaGreat.W.C
open Go.RowKit Go.Proofs.YthdengocipfgiaaGreat.W
theorem doE_pins {K:Nat} {s:St} (h:Inv (K+64064) 0 s) (P:Pv s) (ho:s.out=[]) (ev:Ev) :
  Pv (s.doE ev).1∧(∀ c ∈ (s.doE ev).2.2,c.1=false→∀ b,s.bx c.2.1=some b→upQ b.q=true→(b.p=true→ev.k=4∨ev.k=2)∧(b.q=.busy→ev.k=9)) ∧
  (ev.k=6→(s.doE ev).2.1.1=3→∀ i b,s.bx i=some b→b.fn=ev.n→b.q≠.warm):=by
 by_cases q:right ev
 ·rw [St.doE_right q]
  obtain ⟨k,n,l,z,r,a,m,c,v,p⟩:=ev;have h3:=(right_sm q).2;obtain ⟨a1,ll,a2,a3⟩:=answer_pv h P (ev:=⟨k,n,l,z,r,a,m,c,v,p⟩) ⟨h3.1.1,h3.2.1,h3.2.2⟩;rw [ho,List.nil_append] at a2;refine ⟨⟨a1.tw,a1.no,a1.pu⟩,?_,fun h6 hc=>?_⟩
  ·show ∀ c ∈ (s.answer _).1.out,_
   rw [a2];exact a3
  ·have hc2:(s.answer ⟨k,n,l,z,r,a,m,c,v,p⟩).2.1=3:=hc
   unfold St.answer at hc2;rw [if_pos h6] at hc2;exact call_cold h hc2
 ·rw [St.doE_not q]
  exact ⟨P,(fun c hc=>nomatch hc),(fun _ hc=>absurd (show (1:Int)=3 from hc) (by omega))⟩
end Go.Proofs.YthdengocipfgiaaGreat.W.C
namespace Go.Proofs.YthdengocipfgiaaGreat.W.C
open Go.RowKit Go.Proofs.YthdengocipfgiaaGreat.W
attribute [local go_sem] Oper.semAt_some
theorem c_EndsC {w:World} {own:Nat→Option Tag} {y:Lay} {s:St} (h:Cor w own y s) (hn:s.tn<1073741824) (i:Int) (hi:HT.kw (0,i)):Calls Tryz.prog 13 #[ptr y.c,.int .i64 i] w fun e w'=>e=.returned (.tuple #[.int .i64 ((s.T (0,i)).getD 0),.bool (s.T (0,i)).isSome])∧To w own y s w':=by
 have dr:=c_readyC h;have dt:=k_tat h (0,i) hi hn
 have ht:w.cell? ⟨y.c,9,none⟩=some (ptr y.t):=by
  obtain ⟨v,G,h2,_⟩:=h.coreAll;exact cellL h2 9 _ rfl
 clear h
 go_enter Tryz.func13,Tryz.ntmps13
 go_wp2_with fail
 with_reducible refine dr.mono ?_
 rintro e w1 ⟨rfl,rfl⟩;go_wp2_with fail
 with_reducible refine dt.mono ?_
 rintro e w2 ⟨rfl,h2⟩;go_wp2_with fail
 go_ret2
 exact ⟨rfl,h2⟩
theorem c_Ends {w:World} {own:Nat→Option Tag} {c:Nat} {s:St} (h:Wk w own c s) {K:Nat} (hI:Inv K 0 s) (hl:0<s.last) (i:Int) (hi:HT.kw (0,i)):Calls Tryz.prog 13 #[ptr c,.int .i64 i] w fun e w'=>e=.returned (.tuple #[.int .i64 ((s.T (0,i)).getD 0),.bool (s.T (0,i)).isSome])∧∃ own',Wk w' own' c s∧Nx w own w' own':=by
 obtain ⟨an,⟨y,rfl,han,h1⟩ | ⟨_,rfl,_,_⟩,ha⟩:=h
 ·refine (c_EndsC h1 (by have:=(hI.bd (by omega)).tn;omega) i hi).mono ?_
  rintro e w' ⟨rfl,own',k1,k2⟩;exact ⟨rfl,own',⟨an,Or.inl ⟨y,rfl,han,k1⟩,ha⟩,k2⟩
 ·exact absurd hl (by show ¬ (0:Int)<0;omega)
end Go.Proofs.YthdengocipfgiaaGreat.W.C
namespace Go.Proofs.YthdengocipfgiaaGreat.W.C
open Go.RowKit Go.Proofs.YthdengocipfgiaaGreat.W
attribute [local go_sem] Oper.semAt_some
theorem row_eqv {I:Type} {ic:I→List Value} {sz:Nat} {t:TypeId} {w w':World} {g n cap:Nat} {T:Nat→I} (h:Row ic sz t w g n cap T) (e:w'.heap[g]?=w.heap[g]?):Row ic sz t w' g n cap T:=by
 obtain ⟨cur,h1,h2⟩:=h;exact ⟨cur,e.trans h1,h2⟩
end Go.Proofs.YthdengocipfgiaaGreat.W.C
namespace Go.Proofs.YthdengocipfgiaaGreat.W.C
open Go.RowKit Go.Proofs.YthdengocipfgiaaGreat.W
theorem st2 {q:Ph} (h:q.st=2):q=.busy:=by cases q <;> first | rfl | (exact absurd h (by decide))
theorem out_mem {l:List Cmd} {p:Nat} (hp:p<l.length):outT l p ∈ l:=by
 unfold outT;rw [List.getD_eq_getElem?_getD,List.getElem?_eq_getElem hp];exact List.getElem_mem hp
def Hit (TB:Nat→Bo) (nb:Nat) (l:List Cmd) (k:Int):Prop:=∀ q,q<nb→∀ p,p<l.length→(outT l p).1=false→(outT l p).2.1=(TB q).id→((TB q).p=true→k=4∨k=2)∧((TB q).q.st=2→k=9)
def Cold (TB:Nat→Bo) (nb:Nat) (a k n:Int):Prop:=k=6→a=3→∀ q,q<nb→(TB q).fn=n→(TB q).q.st≠1
theorem pins_words {K:Nat} {s:St} (h:Inv (K+64064) 0 s) (P:Pv s) (ho:s.out=[]) (ev:Ev) :
  Pv (s.doE ev).1∧Hit s.box (ups s.mx s.last).length (s.doE ev).2.2 ev.k∧Cold s.box (ups s.mx s.last).length (s.doE ev).2.1.1 ev.k ev.n:=by
 obtain ⟨a1,a2,a3⟩:=doE_pins h P ho ev;refine ⟨a1,fun q hq p hp hf hi=>?_,fun h6 hc q hq hfn hst=>?_⟩
 ·obtain ⟨b1,b2,_⟩:=box_at h hq
  obtain ⟨c1,c2⟩:=a2 _ (out_mem hp) hf (s.box q) (by rw [hi];exact b1) b2
  exact ⟨c1,fun hs=>c2 (st2 hs)⟩
 ·obtain ⟨b1,b2,_⟩:=box_at h hq
  exact a3 h6 hc _ _ b1 hfn (st1 hst)
theorem its_below {I:Type} {ic:I→List Value} {sz:Nat} {t:TypeId} {w w':World} {sv:Value} {G:Option Nat} {n:Nat} {T:Nat→I} (h:Its ic sz t w sv G n T) (b:Below w.heap.size w w'):Its ic sz t w' sv G n T :=
 h.kept (Only.of_below (S:=fun _=>False) b) (fun _ _ q=>q)
end Go.Proofs.YthdengocipfgiaaGreat.W.C
namespace Go.Proofs.YthdengocipfgiaaGreat.W.C
open Go.RowKit Go.Proofs.YthdengocipfgiaaGreat.W
attribute [local go_sem] Oper.semAt_some
theorem pinned_walk (a0:Option Addr) (k cap:Nat) (Z:Nat→Int) (w:World) (L:Lies w w.heap.size a0 (zs Z (k*10))) (hm:k≤9223372036854775807) :
  Calls Tryz.prog 4 #[.slice a0 k cap] w fun e w'=>e=.returned (.bool true)∧Below w.heap.size w w':=by
 by_cases h200:200<k
 ·go_enter Tryz.func4,Tryz.ntmps4
  go_wp2_with fail
  with_reducible refine (l_head _).mono ?_
  rintro e w1 ⟨rfl,hb1⟩;go_wp2_with fail
  go_ret
  exact ⟨rfl,hb1⟩
 ·clear hm
  go_enter Tryz.func4,Tryz.ntmps4
  go_wp2_with fail
  with_reducible refine (l_head _).mono ?_
  rintro e w1 ⟨rfl,b1⟩;go_wp2_with fail
  with_reducible refine (c_NewW w1).mono ?_
  rintro e w2 ⟨c1,p1,rfl,k1,_,g1,b2⟩;have F2:Hid (Far w p1 w2):=Lib.hid ⟨b1.trans (b2.mono b1.size),fun j q=>Nat.le_trans b1.size (g1 j q)⟩;have K2:=Lib.hid k1;have I2:Hid (Inv ((200-0)*64064+64064) 0 St.zero∧St.zero.out=[]∧Pv St.zero):=Lib.hid ⟨Inv.zero (by decide),rfl,Pv.zero⟩
  clear b1 k1 g1 b2;go_wp2_with fail
  go_loopg [25] k (fun gk v25 wr=>∃ (i:Nat) (o:Nat→Option Tag) (s:St),v25=.int .i64 (i:Int)∧Hid (i+gk=k)∧Hid (Inv ((200-i)*64064+64064) 0 s∧s.out=[]∧Pv s)∧Hid (Wk wr o c1 s)∧Hid (Far w o wr))
  case atStart=>exact ⟨0,p1,St.zero,rfl,Lib.hid (by omega),I2,K2,F2⟩
  case round =>
   clear F2 K2 I2;obtain ⟨i,o,s,rfl,HK,HI,HW,HF⟩:=hrel
   by_cases hi:i<k
   ·obtain ⟨ad,rfl,hab,hcell⟩:=(L.below HF.out.1 (Nat.le_refl _)).num (j:=i*10) (by omega)
    have hli:(i:Int)<(k:Int):=by omega
    obtain ⟨W0,hW0⟩:∃ W0,W0=wr:=⟨_,rfl⟩;subst hW0;have x0:W0.cell? (ad.add (i*10))=some (.int .i64 (Z (i*10))):=hcell (i*10) (by omega)
    have x1:=cell_in (c:=0) (hcell (i*10+1) (by omega))
    have x2:=cell_in (c:=1) (hcell (i*10+2) (by omega))
    have x3:=cell_in (c:=2) (hcell (i*10+3) (by omega))
    have x4:=cell_in (c:=3) (hcell (i*10+4) (by omega))
    have x5:=cell_in (c:=4) (hcell (i*10+5) (by omega))
    have x6:=cell_in (c:=5) (hcell (i*10+6) (by omega))
    have x7:=cell_in (c:=6) (hcell (i*10+7) (by omega))
    have x8:=cell_in (c:=7) (hcell (i*10+8) (by omega))
    have x9:=cell_in (c:=8) (hcell (i*10+9) (by omega))
    obtain ⟨q0,hq0⟩:∃ q,Z (i*10)=q:=⟨_,rfl⟩;obtain ⟨q1,hq1⟩:∃ q,Z (i*10+1)=q:=⟨_,rfl⟩;obtain ⟨q2,hq2⟩:∃ q,Z (i*10+2)=q:=⟨_,rfl⟩;obtain ⟨q3,hq3⟩:∃ q,Z (i*10+3)=q:=⟨_,rfl⟩;obtain ⟨q4,hq4⟩:∃ q,Z (i*10+4)=q:=⟨_,rfl⟩;obtain ⟨q5,hq5⟩:∃ q,Z (i*10+5)=q:=⟨_,rfl⟩;obtain ⟨q6,hq6⟩:∃ q,Z (i*10+6)=q:=⟨_,rfl⟩;obtain ⟨q7,hq7⟩:∃ q,Z (i*10+7)=q:=⟨_,rfl⟩;obtain ⟨q8,hq8⟩:∃ q,Z (i*10+8)=q:=⟨_,rfl⟩;obtain ⟨q9,hq9⟩:∃ q,Z (i*10+9)=q:=⟨_,rfl⟩;rw [hq0] at x0;rw [hq1] at x1;rw [hq2] at x2;rw [hq3] at x3;rw [hq4] at x4;rw [hq5] at x5;rw [hq6] at x6;rw [hq7] at x7;rw [hq8] at x8;rw [hq9] at x9;clear hq0 hq1 hq2 hq3 hq4 hq5 hq6 hq7 hq8 hq9 hcell;go_upto_region 9 with (fail)
    have hbox:=heap_alloc_new W0 (.cells #[.int .i64 q0,.int .i64 q1,.int .i64 q2,.int .i64 q3,.int .i64 q4,.int .i64 q5,.int .i64 q6,.int .i64 q7,.int .i64 q8,.int .i64 q9] 29);have b5:Below W0.heap.size W0 (W0.alloc (.cells #[.int .i64 q0,.int .i64 q1,.int .i64 q2,.int .i64 q3,.int .i64 q4,.int .i64 q5,.int .i64 q6,.int .i64 q7,.int .i64 q8,.int .i64 q9] 29)):=(Below.refl _ _).alloc (Nat.le_refl _) _;have k5:=HW.out.below b5;have f5:Far w o (W0.alloc (.cells #[.int .i64 q0,.int .i64 q1,.int .i64 q2,.int .i64 q3,.int .i64 q4,.int .i64 q5,.int .i64 q6,.int .i64 q7,.int .i64 q8,.int .i64 q9] 29)):=HF.out.side (Only.of_below (S:=fun _=>False) b5) (fun _ q=>q.elim);have hxn:o W0.heap.size=none:=HW.out.fresh (Nat.le_refl _);obtain ⟨x,hx⟩:∃ x,W0.heap.size=x:=⟨_,rfl⟩;rw [hx] at hbox hxn
    try rw [hx]
    clear x0 x1 x2 x3 x4 x5 x6 x7 x8 x9 HW HF b5 hx hab;generalize W0.alloc (.cells #[.int .i64 q0,.int .i64 q1,.int .i64 q2,.int .i64 q3,.int .i64 q4,.int .i64 q5,.int .i64 q6,.int .i64 q7,.int .i64 q8,.int .i64 q9] 29)=w5 at hbox k5 f5 ⊢;have ⟨y0,y1,y2,y3,y4,y5,y6,y7,y8,y9⟩:=ev_cells hbox
    by_cases h40:q9≤40
    ·have dm:=l_mild w5 q0 q1 q2 q3 q4 q5 q6 q7 q8 q9
     rw [decide_eq_true h40] at dm;clear h40;go_wp2_with fail
     with_reducible refine dm.mono ?_
     rintro e w6 ⟨rfl,b56⟩;have S6:Sk w5 o w6 o:=Sk.below b56;have FX5:Fs w5 o x:=⟨hxn,lt_of_row hbox⟩;have k6:=k5.below b56;have f6:=f5.side (Only.of_below (S:=fun _=>False) b56) (fun _ q=>q.elim);have e6:=(S6 _ FX5).2.trans hbox;have FX6:=(S6 _ FX5).1;clear y0 y1 y2 y3 y4 y5 y6 y7 y8 y9 dm k5 f5 b56 hbox hxn S6 FX5;have HI6:Hid (Inv ((200-(i+1))*64064+64064+64064) 0 s):=Lib.hid (HI.out.1.mono (by omega) (Nat.le_refl _))
     have hI7:=Inv.doE HI6.out ⟨q0,q1,q2,q3,q4,q5,q6,q7,q8,q9⟩;have hO7:=doE_out HI.out.2.1 ⟨q0,q1,q2,q3,q4,q5,q6,q7,q8,q9⟩;have hLN:=Inv.doL HI6.out ⟨q0,q1,q2,q3,q4,q5,q6,q7,q8,q9⟩;have hPW:=pins_words HI6.out HI.out.2.2 HI.out.2.1 ⟨q0,q1,q2,q3,q4,q5,q6,q7,q8,q9⟩;have dB:=c_Boxes k6 HI6.out;obtain ⟨nb,hnb⟩:∃ nb,(ups s.mx s.last).length=nb:=⟨_,rfl⟩;obtain ⟨TB,hTB⟩:∃ TB,s.box=TB:=⟨_,rfl⟩;have hlim:nb<1073741824:=by rw [←hnb];have h1:=ups_le s.mx s.last;have h2:=HI6.out.last;omega
     have HLim:=Lib.hid hlim;rw [hnb,hTB] at dB;rw [hnb,hTB] at hPW;clear hlim hnb hTB;go_wp2_with fail
     with_reducible refine dB.mono ?_
     rintro e w7 ⟨g7,cap7,rfl,R7,hg7,b7⟩;have S7:Sk w6 o w7 o:=Sk.below b7;have k7:=k6.below b7;have f7:=f6.side (Only.of_below (S:=fun _=>False) b7) (fun _ q=>q.elim);have e7:=(S7 _ FX6).2.trans e6;have FX7:=(S7 _ FX6).1;have FG7:Fs w7 o g7:=⟨k6.fresh hg7,R7.lt⟩;have HE7:=Lib.hid e7;clear dB k6 f6 hg7 b7 S7 e6 FX6 e7;have ⟨y0,y1,y2,y3,y4,y5,y6,y7,y8,y9⟩:=ev_cells HE7.out;have d1:=c_Do k7 HI6.out q0 q1 q2 q3 q4 q5 q6 q7 q8 q9;obtain ⟨r,hr⟩:∃ r,s.doE ⟨q0,q1,q2,q3,q4,q5,q6,q7,q8,q9⟩=r:=⟨_,rfl⟩;rw [hr] at d1 hI7 hO7 hLN hPW;obtain ⟨s1,⟨b1,b2,b3,b4⟩,l⟩:=r;have HI7:Hid (Inv ((200-(i+1))*64064+64064) 0 s1∧s1.out=[]∧Pv s1):=Lib.hid ⟨hI7,hO7,hPW.1⟩;have HH0:=Lib.hid hPW.2.1;have HC:=Lib.hid hPW.2.2;obtain ⟨n,hn⟩:∃ n,l.length=n:=⟨_,rfl⟩;have HLN:Hid (n≤1073741824):=Lib.hid (by rw [←hn];exact Nat.le_of_lt hLN)
     clear hr HI HI6 hI7 hO7 hPW hLN
     go_upto_region 12 with (first
      | (go_at_call 8;go_loud (with_reducible refine d1.mono ?_;rintro e w9 ⟨sv1,rfl,own10,G1,k9,n9,i9,g9⟩;have HX9:=new_ans w9))
      | (with_reducible refine wpList_store_ans rfl (.tmp 7) (.tmp 38) rfl w9.heap.size b1 b2 b3 b4 rfl rfl 0 0 0 0 HX9 ?_;intro w10 HG10 hg10))
     have o10:=ans_only hg10;have S10:Sk w7 o w10 own10:=(Sk.nx n9).trans (Sk.new o10);have P10:=Lib.hid (k9.side o10 (fun j q=>k9.fresh (by omega)))
     have P10F:=Lib.hid ((f7.nx n9).side o10 (fun j q=>by have:=((f7.nx n9).1).size;omega))
     have HE10:=Lib.hid ((S10 _ FX7).2.trans HE7.out);have HR10:=Lib.hid (row_eqv R7 (S10 _ FG7).2);have i10:=i9.kept o10 (fun g e q=>by have:=i9.lt g e;omega)
     obtain ⟨T,hT⟩:∃ T,outT l=T:=⟨_,rfl⟩;have HH:Hid (∀ u,u<nb→∀ p,p<n→(T p).1=false→(T p).2.1=(TB u).id→((TB u).p=true→q0=4∨q0=2)∧((TB u).q.st=2→q0=9)):=Lib.hid (by rw [←hn,←hT];exact HH0.out)
     rw [hn,hT] at i10;obtain ⟨A2,c2,rfl,_⟩:=i10.slice;have HL10:=Lib.hid i10;obtain ⟨X,hX⟩:∃ X,w9.heap.size=X:=⟨_,rfl⟩;rw [hX] at HG10
     try rw [hX]
     have HX10:=HG10;clear y0 y1 y2 y3 y4 y5 y6 y7 y8 y9 HX9 d1 k7 f7 k9 n9 i9 g9 o10 hg10 HE7 hX S10 FX7 FG7 R7 i10 hn hT HH0 HG10;go_wp2_with fail
     go_loopg [42] nb (fun gk vu wr=>∃ (u:Nat),vu=.int .i64 (u:Int)∧Hid (u+gk=nb)∧Hid (Below w10.heap.size w10 wr))
     case atStart=>exact ⟨0,rfl,Lib.hid (by omega),Lib.hid (Below.refl _ _)⟩
     case round =>
      obtain ⟨u,rfl,HU2,HB⟩:=hrel
      by_cases hu:u<nb
      ·have huI:(
             u:Int)<(nb:Int):=by omega
       have HU:=Lib.hid hu;obtain ⟨W2,hW2⟩:∃ W2,W2=wr:=⟨_,rfl⟩;subst hW2;have hrow:=row_eqv HR10.out (HB.out.block _ HR10.out.lt);have ⟨x0,x1,x2,x3,x4,x5,x6,x7⟩:=box_cells hrow hu;obtain ⟨v0,e0⟩:∃ v,(TB u).id=v:=⟨_,rfl⟩;obtain ⟨v1,e1⟩:∃ v,(TB u).fn=v:=⟨_,rfl⟩;obtain ⟨v2,e2⟩:∃ v,(TB u).ho=v:=⟨_,rfl⟩;obtain ⟨v3,e3⟩:∃ v,(TB u).me=v:=⟨_,rfl⟩;obtain ⟨v4,e4⟩:∃ v,(TB u).q.st=v:=⟨_,rfl⟩;obtain ⟨v5,e5⟩:∃ v,(TB u).q.bd=v:=⟨_,rfl⟩;obtain ⟨v6,e6⟩:∃ v,(TB u).p=v:=⟨_,rfl⟩;obtain ⟨v7,e7⟩:∃ v,(TB u).t=v:=⟨_,rfl⟩;rw [e0] at x0;rw [e1] at x1;rw [e2] at x2;rw [e3] at x3;rw [e4] at x4;rw [e5] at x5;rw [e6] at x6;rw [e7] at x7;have HV0:=Lib.hid e0;have HV1:=Lib.hid e1;have HV4:=Lib.hid e4;have HV6:=Lib.hid e6;clear e0 e1 e2 e3 e4 e5 e6 e7 hrow hu;go_upto_region 15 with (fail)
       have hbx:=heap_alloc_new W2 (.cells #[.int .i64 v0,.int .i64 v1,.int .i64 v2,.int .i64 v3,.int .i64 v4,.bool v5,.bool v6,.int .i64 v7] 43);have b14:Below w10.heap.size w10 (W2.alloc (.cells #[.int .i64 v0,.int .i64 v1,.int .i64 v2,.int .i64 v3,.int .i64 v4,.bool v5,.bool v6,.int .i64 v7] 43)):=HB.out.trans (((Below.refl _ _).alloc (Nat.le_refl _) _).mono HB.out.size);have hl14:=its_below HL10.out b14;have hev:=b14.block _ (lt_of_row HE10.out);rw [HE10.out] at hev;have han:=b14.block _ (lt_of_row HX10.out);rw [HX10.out] at han;clear x0 x1 x2 x3 x4 x5 x6 x7 HB;obtain ⟨bm,hbm⟩:∃ bm,W2.heap.size=bm:=⟨_,rfl⟩;rw [hbm] at hbx
       try rw [hbm]
       clear hbm;generalize W2.alloc (.cells #[.int .i64 v0,.int .i64 v1,.int .i64 v2,.int .i64 v3,.int .i64 v4,.bool v5,.bool v6,.int .i64 v7] 43)=w14 at hbx b14 hl14 hev han ⊢;have HBX:=Lib.hid hbx;have HB14:=Lib.hid b14;have HL14:=Lib.hid hl14;have HE14:=Lib.hid hev;have HX14:=Lib.hid han;clear hbx b14 hl14 hev han;go_wp2_with fail
       go_loopg [48] n (fun gk vp wr=>∃ (p:Nat),vp=.int .i64 (p:Int)∧Hid (p+gk=n)∧Hid (Below w14.heap.size w14 wr))
       case atStart=>exact ⟨0,rfl,Lib.hid (by omega),Lib.hid (Below.refl _ _)⟩
       case round =>
        obtain ⟨p,rfl,HP3,HB⟩:=hrel
        by_cases hp:p<n
        ·have hpI:(p:Int)<(n:Int):=by omega
         obtain ⟨g2,c2',_,e2,r2⟩:=(its_below HL14.out HB.out).some_ (by omega)
         injection e2 with e2 _ e2c
         subst e2;subst e2c;have ⟨z0,z1,z2,z3⟩:=cmd_cells r2 hp;have hh:=HH.out u HU.out p hp;obtain ⟨c0,f0⟩:∃ v,(T p).1=v:=⟨_,rfl⟩;obtain ⟨c1,f1⟩:∃ v,(T p).2.1=v:=⟨_,rfl⟩;obtain ⟨c2,f2⟩:∃ v,(T p).2.2.1=v:=⟨_,rfl⟩;obtain ⟨c3,f3⟩:∃ v,(T p).2.2.2=v:=⟨_,rfl⟩;rw [f0] at z0 hh;rw [f1] at z1 hh;rw [f2] at z2;rw [f3] at z3;rw [HV0.out,HV6.out,HV4.out] at hh;have HHH:=Lib.hid hh;clear f0 f1 f2 f3 hh r2;obtain ⟨W3,hW3⟩:∃ W3,W3=wr:=⟨_,rfl⟩;subst hW3;go_upto_region 18 with (fail)
         have hcm:=heap_alloc_new W3 (.cells #[.bool c0,.int .i64 c1,.int .i64 c2,.int .i64 c3] 49);have b15:Below w14.heap.size w14 (W3.alloc (.cells #[.bool c0,.int .i64 c1,.int .i64 c2,.int .i64 c3] 49)):=HB.out.trans (((Below.refl _ _).alloc (Nat.le_refl _) _).mono HB.out.size);have hbx3:=b15.block _ (lt_of_row HBX.out);have hev3:=b15.block _ (lt_of_row HE14.out);rw [HBX.out] at hbx3;rw [HE14.out] at hev3;clear z0 z1 z2 z3 HB;obtain ⟨km,hkm⟩:∃ km,W3.heap.size=km:=⟨_,rfl⟩;rw [hkm] at hcm
         try rw [hkm]
         clear hkm;generalize W3.alloc (.cells #[.bool c0,.int .i64 c1,.int .i64 c2,.int .i64 c3] 49)=w16 at hcm b15 hbx3 hev3 ⊢;have HB16:=Lib.hid b15;clear b15;have d0:w16.cell? ⟨km,0,none⟩=some (.bool c0):=cellL hcm 0 _ rfl;have d1:w16.cell? ⟨km,1,none⟩=some (.int .i64 c1):=cellL hcm 1 _ rfl;have d2:w16.cell? ⟨bm,0,none⟩=some (.int .i64 v0):=cellL hbx3 0 _ rfl;have d3:w16.cell? ⟨bm,6,none⟩=some (.bool v6):=cellL hbx3 6 _ rfl;have d4:w16.cell? ⟨bm,4,none⟩=some (.int .i64 v4):=cellL hbx3 4 _ rfl;have d5:w16.cell? ⟨x,0,none⟩=some (.int .i64 q0):=cellL hev3 0 _ rfl;clear hcm hbx3 hev3
         cases c0 with
         | true =>
          clear HHH;go_wp2_with fail
          go_roundg (n-(p+1))
          case measure=>have:=HP3.out;omega
          case rel=>exact ⟨p+1,by first | rfl | (rw [IntWalk.wrap64_in _ ⟨by omega,by have:=HLN.out;omega⟩];rfl),Lib.hid (by omega),HB16⟩
         | false =>
          by_cases h1:c1=v0
          ·subst h1
           have hh:=HHH.out rfl rfl;clear HHH
           by_cases h4:v4=2
           ·subst h4
            have h9:(q0 != 9)=false:=by rw [hh.2 rfl];rfl
            cases v6 with
            | false =>
             clear hh;go_wp2_with fail
             go_roundg (n-(p+1))
             case measure=>have:=HP3.out;omega
             case rel=>exact ⟨p+1,by first | rfl | (rw [IntWalk.wrap64_in _ ⟨by omega,by have:=HLN.out;omega⟩];rfl),Lib.hid (by omega),HB16⟩
            | true =>
             exfalso;have h3:=hh.1 rfl;have h5:=hh.2 rfl;omega
           ·have h4b:(v4 == 2)=false:=by simpa using h4
            clear h4
            cases v6 with
            | false =>
             clear hh;go_wp2_with fail
             go_roundg (n-(p+1))
             case measure=>have:=HP3.out;omega
             case rel=>exact ⟨p+1,by first | rfl | (rw [IntWalk.wrap64_in _ ⟨by omega,by have:=HLN.out;omega⟩];rfl),Lib.hid (by omega),HB16⟩
            | true =>
             have h3:=hh.1 rfl;clear hh
             by_cases h44:q0=4
             ·have h44b:(q0 != 4)=false:=by rw [h44];rfl
              clear h44 h3;go_wp2_with fail
              go_roundg (n-(p+1))
              case measure=>have:=HP3.out;omega
              case rel=>exact ⟨p+1,by first | rfl | (rw [IntWalk.wrap64_in _ ⟨by omega,by have:=HLN.out;omega⟩];rfl),Lib.hid (by omega),HB16⟩
             ·have h2b:(q0 != 2)=false:=by rw [show q0=2 by omega];rfl
              have h44b:(q0 != 4)=true:=by simpa using h44
              clear h44 h3;go_wp2_with fail
              go_roundg (n-(p+1))
              case measure=>have:=HP3.out;omega
              case rel=>exact ⟨p+1,by first | rfl | (rw [IntWalk.wrap64_in _ ⟨by omega,by have:=HLN.out;omega⟩];rfl),Lib.hid (by omega),HB16⟩
          ·have h1b:(c1 == v0)=false:=by simpa using h1
           clear h1 HHH;go_wp2_with fail
           go_roundg (n-(p+1))
           case measure=>have:=HP3.out;omega
           case rel=>exact ⟨p+1,by first | rfl | (rw [IntWalk.wrap64_in _ ⟨by omega,by have:=HLN.out;omega⟩];rfl),Lib.hid (by omega),HB16⟩
        ·have hpn:p=n:=by have:=HP3.out;omega
         subst hpn;have b17:=HB14.out.trans (HB.out.mono HB14.out.size);have hbx4:=HB.out.block _ (lt_of_row HBX.out);rw [HBX.out] at hbx4;have hev4:=HB.out.block _ (lt_of_row HE14.out);rw [HE14.out] at hev4;have han4:=HB.out.block _ (lt_of_row HX14.out);rw [HX14.out] at han4;have HB17:=Lib.hid b17;have d1:wr.cell? ⟨bm,1,none⟩=some (.int .i64 v1):=cellL hbx4 1 _ rfl;have d2:wr.cell? ⟨bm,4,none⟩=some (.int .i64 v4):=cellL hbx4 4 _ rfl;have d3:wr.cell? ⟨x,0,none⟩=some (.int .i64 q0):=cellL hev4 0 _ rfl;have d4:wr.cell? ⟨x,1,none⟩=some (.int .i64 q1):=cellL hev4 1 _ rfl;have d5:wr.cell? ⟨X,0,none⟩=some (.int .i64 b1):=(an_cells han4).1;clear b17 hbx4 hev4 han4 HB HBX HE14 HX14;obtain ⟨W4,hW4⟩:∃ W4,W4=wr:=⟨_,rfl⟩;subst hW4;have hc:=HC.out
         by_cases h6:q0=6
         ·have h6b:(q0 == 6)=true:=by rw [h6];rfl
          by_cases h3:b1=3
          ·have h3b:(b1 == 3)=true:=by rw [h3];rfl
           have hc2:=hc h6 h3 u HU.out;rw [HV1.out,HV4.out] at hc2;clear h6 h3 hc
           by_cases h7:v1=q1
           ·have h7b:(v1 == q1)=true:=by rw [h7];simp
            have h8b:(v4 == 1)=false:=by simpa using hc2 h7
            clear h7 hc2;go_wp2_with fail
            go_roundg (nb-(u+1))
            case measure=>have:=HU2.out;omega
            case rel=>exact ⟨u+1,by first | rfl | (rw [IntWalk.wrap64_in _ ⟨by omega,by have:=HLim.out;omega⟩];rfl),Lib.hid (by omega),HB17⟩
           ·have h7b:(v1 == q1)=false:=by simpa using h7
            clear h7 hc2;go_wp2_with fail
            go_roundg (nb-(u+1))
            case measure=>have:=HU2.out;omega
            case rel=>exact ⟨u+1,by first | rfl | (rw [IntWalk.wrap64_in _ ⟨by omega,by have:=HLim.out;omega⟩];rfl),Lib.hid (by omega),HB17⟩
          ·have h3b:(b1 == 3)=false:=by simpa using h3
           clear h3 h6 hc;go_wp2_with fail
           go_roundg (nb-(u+1))
           case measure=>have:=HU2.out;omega
           case rel=>exact ⟨u+1,by first | rfl | (rw [IntWalk.wrap64_in _ ⟨by omega,by have:=HLim.out;omega⟩];rfl),Lib.hid (by omega),HB17⟩
         ·have h6b:(q0 == 6)=false:=by simpa using h6
          clear h6 hc;go_wp2_with fail
          go_roundg (nb-(u+1))
          case measure=>have:=HU2.out;omega
          case rel=>exact ⟨u+1,by first | rfl | (rw [IntWalk.wrap64_in _ ⟨by omega,by have:=HLim.out;omega⟩];rfl),Lib.hid (by omega),HB17⟩
      ·have hun:u=nb:=by have:=HU2.out;omega
       subst hun;have k12:=P10.out.below HB.out;have f12:Far w own10 wr:=P10F.out.side (Only.of_below (S:=fun _=>False) HB.out) (fun _ q=>q.elim);clear HR10 HL10 HE10 HX10 HH HC HB HLim HLN P10 P10F;have dC:=c_Boxes k12 HI7.out.1;have hend:=HI7.out.2.2.ended HI7.out.1;obtain ⟨nc,hnc⟩:∃ nc,(ups s1.mx s1.last).length=nc:=⟨_,rfl⟩;have hbnd:∀ u,u<nc→1≤(s1.box u).id∧(s1.box u).id≤s1.last:=fun u hu=>(box_at HI7.out.1 (by rw [hnc];exact hu)).2.2
       have hlim4:nc<1073741824:=by rw [←hnc];have h1:=ups_le s1.mx s1.last;have h2:=HI7.out.1.last;omega
       unfold Ended at hend;rw [hnc] at dC hend;have HLim4:=Lib.hid hlim4;have HEN:=Lib.hid hend;have HBD:=Lib.hid hbnd;clear hlim4 hend hbnd hnc;go_wp2_with fail
       with_reducible refine dC.mono ?_
       rintro e w13 ⟨g4,cap4,rfl,R13,hg4,b13⟩;have K13:=Lib.hid (k12.below b13);have F13:=Lib.hid (f12.side (Only.of_below (S:=fun _=>False) b13) (fun _ q=>q.elim));have G13:Hid (Fs w13 own10 g4∧Row brow 8 43 w13 g4 nc cap4 s1.box):=Lib.hid ⟨⟨k12.fresh hg4,R13.lt⟩,R13⟩;clear dC k12 f12 R13 hg4 b13;go_wp2_with fail
       go_loopg [111] nc (fun gk vu wr=>∃ (u:Nat) (o:Nat→Option Tag),vu=.int .i64 (u:Int)∧Hid (u+gk=nc)∧Hid (Wk wr o c1 s1)∧Hid (Far w o wr)∧Hid (Fs wr o g4∧Row brow 8 43 wr g4 nc cap4 s1.box))
       case atStart=>exact ⟨0,own10,rfl,Lib.hid (by omega),K13,F13,G13⟩
       case round =>
        clear K13 F13 G13;obtain ⟨u,o,rfl,HU2,HW,HF,HG⟩:=hrel
        by_cases hu:u<nc
        ·have huI:(u:Int)<(nc:Int):=by omega
         have HU:=Lib.hid hu;obtain ⟨W4,hW4⟩:∃ W4,W4=wr:=⟨_,rfl⟩;subst hW4;have hrow:=HG.out.2;have hen:=HEN.out u hu;have hbd:=HBD.out u hu;have ⟨x0,x1,x2,x3,x4,x5,x6,x7⟩:=box_cells hrow hu;obtain ⟨v0,e0⟩:∃ v,(s1.box u).id=v:=⟨_,rfl⟩;obtain ⟨v1,e1⟩:∃ v,(s1.box u).fn=v:=⟨_,rfl⟩;obtain ⟨v2,e2⟩:∃ v,(s1.box u).ho=v:=⟨_,rfl⟩;obtain ⟨v3,e3⟩:∃ v,(s1.box u).me=v:=⟨_,rfl⟩;obtain ⟨v4,e4⟩:∃ v,(s1.box u).q.st=v:=⟨_,rfl⟩;obtain ⟨v5,e5⟩:∃ v,(s1.box u).q.bd=v:=⟨_,rfl⟩;obtain ⟨v6,e6⟩:∃ v,(s1.box u).p=v:=⟨_,rfl⟩;obtain ⟨v7,e7⟩:∃ v,(s1.box u).t=v:=⟨_,rfl⟩;rw [e0] at x0;rw [e1] at x1;rw [e2] at x2;rw [e3] at x3;rw [e4] at x4;rw [e5] at x5;rw [e6] at x6;rw [e7] at x7;rw [e0] at hbd;rw [e0,e4,e6] at hen;clear e0 e1 e2 e3 e4 e5 e6 e7 hrow hu;go_upto_region 27 with (fail)
         have hbx:=heap_alloc_new W4 (.cells #[.int .i64 v0,.int .i64 v1,.int .i64 v2,.int .i64 v3,.int .i64 v4,.bool v5,.bool v6,.int .i64 v7] 43);have b14:Below W4.heap.size W4 (W4.alloc (.cells #[.int .i64 v0,.int .i64 v1,.int .i64 v2,.int .i64 v3,.int .i64 v4,.bool v5,.bool v6,.int .i64 v7] 43)):=(Below.refl _ _).alloc (Nat.le_refl _) _;have k14:=HW.out.below b14;have f14:Far w o (W4.alloc (.cells #[.int .i64 v0,.int .i64 v1,.int .i64 v2,.int .i64 v3,.int .i64 v4,.bool v5,.bool v6,.int .i64 v7] 43)):=HF.out.side (Only.of_below (S:=fun _=>False) b14) (fun _ q=>q.elim);have S14:Sk W4 o (W4.alloc (.cells #[.int .i64 v0,.int .i64 v1,.int .i64 v2,.int .i64 v3,.int .i64 v4,.bool v5,.bool v6,.int .i64 v7] 43)) o:=Sk.below b14;have hbn:o W4.heap.size=none:=HW.out.fresh (Nat.le_refl _);have g14:=HG.out;clear x0 x1 x2 x3 x4 x5 x6 x7 HW HF HG b14;obtain ⟨bm,hbm⟩:∃ bm,W4.heap.size=bm:=⟨_,rfl⟩;rw [hbm] at hbx hbn
         try rw [hbm]
         clear hbm;have g14b:Fs (W4.alloc (.cells #[.int .i64 v0,.int .i64 v1,.int .i64 v2,.int .i64 v3,.int .i64 v4,.bool v5,.bool v6,.int .i64 v7] 43)) o g4∧Row brow 8 43 (W4.alloc (.cells #[.int .i64 v0,.int .i64 v1,.int .i64 v2,.int .i64 v3,.int .i64 v4,.bool v5,.bool v6,.int .i64 v7] 43)) g4 nc cap4 s1.box:=⟨(S14 _ g14.1).1,row_eqv g14.2 (S14 _ g14.1).2⟩;clear S14 g14;generalize W4.alloc (.cells #[.int .i64 v0,.int .i64 v1,.int .i64 v2,.int .i64 v3,.int .i64 v4,.bool v5,.bool v6,.int .i64 v7] 43)=w14 at hbx k14 f14 g14b ⊢;have hl:=HI7.out.1.last;have dE:=c_Ends k14 HI7.out.1 (by omega) v0 ⟨rfl,wfK (by omega) (by omega)⟩
         have FB:Fs w14 o bm:=⟨hbn,lt_of_row hbx⟩;have d0:w14.cell? ⟨bm,0,none⟩=some (.int .i64 v0):=cellL hbx 0 _ rfl;obtain ⟨okv,hok⟩:∃ okv,(s1.T (0,v0)).isSome=okv:=⟨_,rfl⟩;rw [hok] at dE hen;have HEV:=Lib.hid hen;clear hl hok hen hbd hbn
         go_upto_region 28 with (first
          | (go_at_call 13;go_loud (with_reducible refine dE.mono ?_;rintro e w15 ⟨rfl,o15,k15,n15⟩)))
         have S15:=Sk.nx n15;have K15:=Lib.hid k15;have F15:=Lib.hid (f14.nx n15);have G15:=Lib.hid (And.intro (S15 _ g14b.1).1 (row_eqv g14b.2 (S15 _ g14b.1).2));have hbx5:=(S15 _ FB).2.trans hbx;clear d0 dE k14 f14 g14b FB k15 n15 S15 hbx;have d1:w15.cell? ⟨bm,4,none⟩=some (.int .i64 v4):=cellL hbx5 4 _ rfl;have d2:w15.cell? ⟨bm,6,none⟩=some (.bool v6):=cellL hbx5 6 _ rfl;clear hbx5;have hv:=HEV.out;clear HEV
         by_cases h1:v4=1
         ·have h1b:(v4 == 1)=true:=by rw [h1];rfl
          rw [h1b] at hv;clear h1
          cases v6 with
          | false =>
           obtain rfl:okv=true:=hv;go_wp2_with fail
           go_roundg (nc-(u+1))
           case measure=>have:=HU2.out;omega
           case rel=>exact ⟨u+1,o15,by first | rfl | (rw [IntWalk.wrap64_in _ ⟨by omega,by have:=HLim4.out;omega⟩];rfl),Lib.hid (by omega),K15,F15,G15⟩
          | true =>
           obtain rfl:okv=false:=hv;go_wp2_with fail
           go_roundg (nc-(u+1))
           case measure=>have:=HU2.out;omega
           case rel=>exact ⟨u+1,o15,by first | rfl | (rw [IntWalk.wrap64_in _ ⟨by omega,by have:=HLim4.out;omega⟩];rfl),Lib.hid (by omega),K15,F15,G15⟩
         ·have h1b:(v4 == 1)=false:=by simpa using h1
          rw [h1b] at hv;obtain rfl:okv=false:=hv;clear h1;go_wp2_with fail
          go_roundg (nc-(u+1))
          case measure=>have:=HU2.out;omega
          case rel=>exact ⟨u+1,o15,by first | rfl | (rw [IntWalk.wrap64_in _ ⟨by omega,by have:=HLim4.out;omega⟩];rfl),Lib.hid (by omega),K15,F15,G15⟩
        ·have hun:u=nc:=by have:=HU2.out;omega
         subst hun;go_wp2_with fail
         go_roundg (k-(i+1))
         case measure=>have:=HK.out;omega
         case rel=>exact ⟨i+1,o,s1,rfl,Lib.hid (by omega),HI7,HW,HF⟩
    ·have dm:=l_mild w5 q0 q1 q2 q3 q4 q5 q6 q7 q8 q9
     rw [decide_eq_false h40] at dm;clear h40;go_wp2_with fail
     with_reducible refine dm.mono ?_
     rintro e w6 ⟨rfl,b56⟩;have K6:=Lib.hid (k5.below b56);have F6:=Lib.hid (f5.side (Only.of_below (S:=fun _=>False) b56) (fun _ q=>q.elim));clear y0 y1 y2 y3 y4 y5 y6 y7 y8 y9 dm k5 f5 b56 hbox hxn;go_wp2_with fail
     go_roundg (k-(i+1))
     case measure=>have:=HK.out;omega
     case rel=>exact ⟨i+1,o,s,rfl,Lib.hid (by omega),Lib.hid ⟨HI.out.1.mono (by omega) (Nat.le_refl _),HI.out.2⟩,K6,F6⟩
   ·have hik:i=k:=by have:=HK.out;omega
    subst hik;go_wp2_with fail
    go_ret
    exact ⟨rfl,HF.out.1⟩
end Go.Proofs.YthdengocipfgiaaGreat.W.C
