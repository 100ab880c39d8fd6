import Derived.Test.YthdengocipfgiaaGreatCaA
import Derived.Test.YthdengocipfgiaaGreatRows
import Derived.Test.YthdengocipfgiaaGreatCaB
import Derived.BigRegion
import Derived.Deep.DeepCutAuto
import Derived.Deep.CutBlock
import Derived.Deep.RegionHeld3
/- A part of what core's laws stand on. -/
set_option linter.unusedVariables false
set_option linter.unusedSimpArgs false
set_option maxRecDepth 100000
set_option maxHeartbeats 3200000
namespace Go.Proofs.YthdengocipfgiaaGreat.W
open Go.RowKit
def sumN (g:Nat→Nat):Nat→Nat
 | 0=>0
 | n+1=>sumN g n+g n
theorem sumN_ext {g h:Nat→Nat}:∀ {n:Nat},(∀ j,j<n→g j=h j)→sumN g n=sumN h n
 | 0,_=>rfl
 | n+1,q=>by unfold sumN;rw [sumN_ext (n:=n) (fun j hj=>q j (by omega)),q n (by omega)]
theorem sumN_bound {g:Nat→Nat} {c:Nat} (h:∀ j,g j≤c):∀ n,sumN g n≤n*c
 | 0=>by simp [sumN]
 | n+1=>by unfold sumN;have:=sumN_bound h n;have:=h n;rw [Nat.succ_mul];omega
theorem sumN_zero {g:Nat→Nat}:∀ {n:Nat},(∀ j,j<n→g j=0)→sumN g n=0
 | 0,_=>rfl
 | n+1,q=>by unfold sumN;rw [sumN_zero (n:=n) (fun j hj=>q j (by omega)),q n (by omega)]
theorem sumN_upd {g g':Nat→Nat} {x:Nat} (h:∀ j,j≠x→g' j=g j):∀ {n:Nat},x<n→sumN g' n+g x=sumN g n+g' x
 | 0,h0=>by omega
 | n+1,h0=>by
  unfold sumN
  by_cases e:x=n
  ·subst e;rw [sumN_ext (n:=x) (fun j hj=>h j (by omega))];omega
  ·have:=sumN_upd h (n:=n) (by omega);rw [h n (by omega)];omega
abbrev Fn:=Nat×Nat×Nat
def gR (F:Int→Option Fn) (a:Int) (j:Nat):Nat:=match F (j:Int) with | some (o,r,_)=>if (o:Int)=a then r else 0 | none=>0
def gB (F:Int→Option Fn) (a:Int) (j:Nat):Nat:=match F (j:Int) with | some (o,_,b)=>if (o:Int)=a then b else 0 | none=>0
def gO (F:Int→Option Fn) (a:Int) (j:Nat):Nat:=match F (j:Int) with | some (o,r,b)=>if (o:Int)=a∧r=0 then b else 0 | none=>0
def sR (F:Int→Option Fn) (a:Int):Nat:=sumN (gR F a) 64
def sB (F:Int→Option Fn) (a:Int):Nat:=sumN (gB F a) 64
def sO (F:Int→Option Fn) (a:Int):Nat:=sumN (gO F a) 64
theorem gR_none {F:Int→Option Fn} {a:Int} {j:Nat} (h:F (j:Int)=none):gR F a j=0:=by unfold gR;rw [h]
theorem gB_none {F:Int→Option Fn} {a:Int} {j:Nat} (h:F (j:Int)=none):gB F a j=0:=by unfold gB;rw [h]
theorem gO_none {F:Int→Option Fn} {a:Int} {j:Nat} (h:F (j:Int)=none):gO F a j=0:=by unfold gO;rw [h]
theorem gR_some {F:Int→Option Fn} {a:Int} {j o r b:Nat} (h:F (j:Int)=some (o,r,b)):gR F a j=if (o:Int)=a then r else 0:=by unfold gR;rw [h]
theorem gB_some {F:Int→Option Fn} {a:Int} {j o r b:Nat} (h:F (j:Int)=some (o,r,b)):gB F a j=if (o:Int)=a then b else 0:=by unfold gB;rw [h]
theorem gO_some {F:Int→Option Fn} {a:Int} {j o r b:Nat} (h:F (j:Int)=some (o,r,b)):gO F a j=if (o:Int)=a∧r=0 then b else 0:=by unfold gO;rw [h]
structure Ab (A:Int→Option Nat) (F:Int→Option Fn):Prop where
 a0:∀ x n,A x=some n→0≤x∧x<16∧n≤1000
 f0:∀ x o r b,F x=some (o,r,b)→0≤x∧x<64∧o<16∧r≤1000∧b≤1000
theorem Ab.zero:Ab (fun _=>none) (fun _=>none):=⟨fun _ _ h=>(nomatch h),fun _ _ _ _ h=>(nomatch h)⟩
theorem Ab.account {A:Int→Option Nat} {F:Int→Option Fn} (h:Ab A F) {x n:Nat} (hx:x<16) (hn:n≤1000):Ab (updZ A (x:Int) (some n)) F:=by
 refine ⟨fun y m q=>?_,h.f0⟩
 by_cases e:y=(x:Int)
 ·subst e;rw [updZ_same] at q;cases q;omega
 ·rw [updZ_ne _ _ e] at q;exact h.a0 y m q
theorem Ab.func {A:Int→Option Nat} {F:Int→Option Fn} (h:Ab A F) {f o r b:Nat} (hf:f<64) (ho:o<16) (hr:r≤1000) (hb:b≤1000):Ab A (updZ F (f:Int) (some (o,r,b))):=by
 refine ⟨h.a0,fun y o' r' b' q=>?_⟩
 by_cases e:y=(f:Int)
 ·subst e;rw [updZ_same] at q;cases q;omega
 ·rw [updZ_ne _ _ e] at q;exact h.f0 y o' r' b' q
theorem Ab.gR {A:Int→Option Nat} {F:Int→Option Fn} (h:Ab A F) (a:Int) (j:Nat):gR F a j≤1000:=by
 cases q:F (j:Int) with
 | none=>rw [gR_none q];omega
 | some v=>obtain ⟨o,r,b⟩:=v;have:=h.f0 _ _ _ _ q;rw [gR_some q];split <;> omega
theorem Ab.gB {A:Int→Option Nat} {F:Int→Option Fn} (h:Ab A F) (a:Int) (j:Nat):gB F a j≤1000:=by
 cases q:F (j:Int) with
 | none=>rw [gB_none q];omega
 | some v=>obtain ⟨o,r,b⟩:=v;have:=h.f0 _ _ _ _ q;rw [gB_some q];split <;> omega
theorem Ab.gO {A:Int→Option Nat} {F:Int→Option Fn} (h:Ab A F) (a:Int) (j:Nat):gO F a j≤1000:=by
 cases q:F (j:Int) with
 | none=>rw [gO_none q];omega
 | some v=>obtain ⟨o,r,b⟩:=v;have:=h.f0 _ _ _ _ q;rw [gO_some q];split <;> omega
theorem Ab.sR {A:Int→Option Nat} {F:Int→Option Fn} (h:Ab A F) (a:Int):sR F a≤64000:=sumN_bound (h.gR a) 64
theorem Ab.sB {A:Int→Option Nat} {F:Int→Option Fn} (h:Ab A F) (a:Int):sB F a≤64000:=sumN_bound (h.gB a) 64
theorem Ab.sO {A:Int→Option Nat} {F:Int→Option Fn} (h:Ab A F) (a:Int):sO F a≤64000:=sumN_bound (h.gO a) 64
theorem gB_le_sB {F:Int→Option Fn} {f o r b:Nat} (hf:f<64) (h:F (f:Int)=some (o,r,b)):b≤sB F (o:Int):=by
 have:=sumN_upd (g:=gB F (o:Int)) (g':=fun j=>if j=f then 0 else gB F (o:Int) j) (x:=f) (fun j hj=>if_neg hj) hf
 simp only [if_true] at this;rw [gB_some h,if_pos rfl] at this;unfold sB;omega
def isA (x:Int):Bool:=decide (0≤x) && decide (x<16)
def isF (x:Int):Bool:=decide (0≤x) && decide (x<64)
def isC (x:Int):Bool:=decide (0≤x) && decide (x≤1000)
theorem isA_iff {x:Int}:isA x=true↔0≤x∧x<16:=by simp [isA]
theorem isF_iff {x:Int}:isF x=true↔0≤x∧x<64:=by simp [isF]
theorem isC_iff {x:Int}:isC x=true↔0≤x∧x≤1000:=by simp [isC]
theorem isA_nat {x:Int} (h:isA x=true):∃ a:Nat,x=(a:Int)∧a<16:=⟨x.toNat,by have:=isA_iff.1 h;omega,by have:=isA_iff.1 h;omega⟩
theorem isF_nat {x:Int} (h:isF x=true):∃ a:Nat,x=(a:Int)∧a<64:=⟨x.toNat,by have:=isF_iff.1 h;omega,by have:=isF_iff.1 h;omega⟩
theorem isC_nat {x:Int} (h:isC x=true):∃ a:Nat,x=(a:Int)∧a≤1000:=⟨x.toNat,by have:=isC_iff.1 h;omega,by have:=isC_iff.1 h;omega⟩
theorem Ab.noF {A:Int→Option Nat} {F:Int→Option Fn} (h:Ab A F) {x:Int} (hx:isF x=false):F x=none:=by
 cases q:F x with
 | none=>rfl
 | some v=>obtain ⟨o,r,b⟩:=v;have:=h.f0 _ _ _ _ q;rw [isF_iff.2 (by omega)] at hx;cases hx
def accC (F:Int→Option Fn) (x n:Int):Nat:=if isA x && isC n then (if n<(sR F x:Int) then 4 else 0) else 1
def accA (A:Int→Option Nat) (F:Int→Option Fn) (x n:Int):Int→Option Nat:=if accC F x n=0 then updZ A x (some n.toNat) else A
def funC (A:Int→Option Nat) (F:Int→Option Fn) (f x n:Int):Nat :=
 if isF f && isA x && isC n then
  match A x with
  | none=>2
  | some lim=>match F f with
   | some (o,r,_)=>if (o:Int)=x then (if (lim:Int)<(sR F x:Int)-(r:Int)+n then 4 else 0) else 3
   | none=>if (lim:Int)<(sR F x:Int)+n then 4 else 0
 else 1
def funF (A:Int→Option Nat) (F:Int→Option Fn) (f x n:Int):Int→Option Fn :=
 if funC A F f x n=0 then updZ F f (some (x.toNat,n.toNat,((F f).getD (0,0,0)).2.2)) else F
def askC (A:Int→Option Nat) (F:Int→Option Fn) (f:Int):Nat×Bool :=
 match F f with
 | none=>(0,false)
 | some (o,r,b)=>if 0<r∧r≤b then (1,true) else
   if ((A (o:Int)).getD 0:Nat)≤sB F (o:Int)∨(r=0∧((A (o:Int)).getD 0:Nat)≤sO F (o:Int)+sR F (o:Int)) then (2,true) else (0,true)
def mayB (A:Int→Option Nat) (F:Int→Option Fn) (f:Int):Bool:=(askC A F f).2 && decide ((askC A F f).1=0)
def busy (F:Int→Option Fn) (f:Int):Nat:=((F f).getD (0,0,0)).2.2
def begF (A:Int→Option Nat) (F:Int→Option Fn) (f:Int):Int→Option Fn :=
 if mayB A F f then updZ F f ((F f).map (fun v=>(v.1,v.2.1,v.2.2+1))) else F
def endF (F:Int→Option Fn) (f:Int):Int→Option Fn :=
 if 0<busy F f then updZ F f ((F f).map (fun v=>(v.1,v.2.1,v.2.2-1))) else F
def lc (A:Int→Option Nat) (F:Int→Option Fn) (j:Nat):Value :=
 if j<32 then (if j % 2=0 then .bool (A ((j / 2:Nat):Int)).isSome else .int .i64 (((A ((j / 2:Nat):Int)).getD 0:Nat):Int))
 else if (j-32) % 4=0 then .bool (F (((j-32) / 4:Nat):Int)).isSome
 else if (j-32) % 4=1 then .int .i64 ((((F (((j-32) / 4:Nat):Int)).getD (0,0,0)).1:Nat):Int)
 else if (j-32) % 4=2 then .int .i64 ((((F (((j-32) / 4:Nat):Int)).getD (0,0,0)).2.1:Nat):Int)
 else .int .i64 ((((F (((j-32) / 4:Nat):Int)).getD (0,0,0)).2.2:Nat):Int)
theorem lc_a0 (A:Int→Option Nat) (F:Int→Option Fn) {a:Nat} (h:a<16):lc A F (a*2)=.bool (A (a:Int)).isSome:=by
 unfold lc;rw [if_pos (by omega),if_pos (by omega),show a*2 / 2=a by omega]
theorem lc_a1 (A:Int→Option Nat) (F:Int→Option Fn) {a:Nat} (h:a<16):lc A F (a*2+1)=.int .i64 (((A (a:Int)).getD 0:Nat):Int):=by
 unfold lc;rw [if_pos (by omega),if_neg (by omega),show (a*2+1) / 2=a by omega]
theorem lc_f0 (A:Int→Option Nat) (F:Int→Option Fn) (f:Nat):lc A F (32+f*4)=.bool (F (f:Int)).isSome:=by
 unfold lc;rw [if_neg (by omega),if_pos (by omega),show (32+f*4-32) / 4=f by omega]
theorem lc_f1 (A:Int→Option Nat) (F:Int→Option Fn) (f:Nat):lc A F (32+f*4+1)=.int .i64 ((((F (f:Int)).getD (0,0,0)).1:Nat):Int):=by
 unfold lc;rw [if_neg (by omega),if_neg (by omega),if_pos (by omega),show (32+f*4+1-32) / 4=f by omega]
theorem lc_f2 (A:Int→Option Nat) (F:Int→Option Fn) (f:Nat):lc A F (32+f*4+2)=.int .i64 ((((F (f:Int)).getD (0,0,0)).2.1:Nat):Int):=by
 unfold lc;rw [if_neg (by omega),if_neg (by omega),if_neg (by omega),if_pos (by omega),show (32+f*4+2-32) / 4=f by omega]
theorem lc_f3 (A:Int→Option Nat) (F:Int→Option Fn) (f:Nat):lc A F (32+f*4+3)=.int .i64 ((((F (f:Int)).getD (0,0,0)).2.2:Nat):Int):=by
 unfold lc;rw [if_neg (by omega),if_neg (by omega),if_neg (by omega),if_neg (by omega),show (32+f*4+3-32) / 4=f by omega]
def lrow (A:Int→Option Nat) (F:Int→Option Fn):List Value:=(List.range 288).map (lc A F)
theorem lrow_len (A:Int→Option Nat) (F:Int→Option Fn):(lrow A F).length=288:=by simp [lrow]
theorem lrow_at (A:Int→Option Nat) (F:Int→Option Fn) {j:Nat} (h:j<288):(lrow A F)[j]?=some (lc A F j):=by
 unfold lrow;rw [List.getElem?_map,List.getElem?_range h];rfl
theorem lrow_zero:lrow (fun _=>none) (fun _=>none)=(List.replicate 16 [Value.bool false,.int .i64 0]).flatten ++ (List.replicate 64 [Value.bool false,.int .i64 0,.int .i64 0,.int .i64 0]).flatten:=by kernel_rfl
structure Lg (w:World) (l:Nat) (A:Int→Option Nat) (F:Int→Option Fn):Prop where
 ab:Ab A F
 row:w.heap[l]?=some (.cells (lrow A F).toArray 105 (0,0))
theorem Lg.lt {w:World} {l:Nat} {A:Int→Option Nat} {F:Int→Option Fn} (h:Lg w l A F):l<w.heap.size:=lt_of_row h.row
theorem Lg.keep {w w':World} {l B:Nat} {A:Int→Option Nat} {F:Int→Option Fn} (h:Lg w l A F) (hb:Below B w w') (hl:l<B):Lg w' l A F:=⟨h.ab,by rw [hb.block l hl];exact h.row⟩
theorem Lg.off {w w':World} {l q:Nat} {A:Int→Option Nat} {F:Int→Option Fn} (h:Lg w l A F) (hb:w.grownBy w' (some q)) (hl:l≠q):Lg w' l A F:=⟨h.ab,by rw [hb.block l h.lt (by simpa using hl)];exact h.row⟩
theorem Lg.drewN {w:World} {l:Nat} {A:Int→Option Nat} {F:Int→Option Fn} (h:Lg w l A F) (n:Nat):Lg (w.drewN n) l A F:=⟨h.ab,h.row⟩
theorem Lg.cell {w:World} {l:Nat} {A:Int→Option Nat} {F:Int→Option Fn} (h:Lg w l A F) {j:Nat} (hj:j<288):w.cell? ⟨l,j,none⟩=some (lc A F j):=cellL h.row j _ (lrow_at A F hj)
theorem Lg.a0 {w:World} {l:Nat} {A:Int→Option Nat} {F:Int→Option Fn} (h:Lg w l A F) {a:Nat} (ha:a<16):w.cell? ⟨l,a*2,none⟩=some (.bool (A (a:Int)).isSome):=by rw [h.cell (by omega),lc_a0 A F ha]
theorem Lg.a1 {w:World} {l:Nat} {A:Int→Option Nat} {F:Int→Option Fn} (h:Lg w l A F) {a:Nat} (ha:a<16):w.cell? ⟨l,a*2+1,none⟩=some (.int .i64 (((A (a:Int)).getD 0:Nat):Int)):=by rw [h.cell (by omega),lc_a1 A F ha]
theorem Lg.f0 {w:World} {l:Nat} {A:Int→Option Nat} {F:Int→Option Fn} (h:Lg w l A F) {f:Nat} (hf:f<64):w.cell? ⟨l,32+f*4,none⟩=some (.bool (F (f:Int)).isSome):=by rw [h.cell (by omega),lc_f0]
theorem Lg.f1 {w:World} {l:Nat} {A:Int→Option Nat} {F:Int→Option Fn} (h:Lg w l A F) {f:Nat} (hf:f<64):w.cell? ⟨l,32+f*4+1,none⟩=some (.int .i64 ((((F (f:Int)).getD (0,0,0)).1:Nat):Int)):=by rw [h.cell (by omega),lc_f1]
theorem Lg.f2 {w:World} {l:Nat} {A:Int→Option Nat} {F:Int→Option Fn} (h:Lg w l A F) {f:Nat} (hf:f<64):w.cell? ⟨l,32+f*4+2,none⟩=some (.int .i64 ((((F (f:Int)).getD (0,0,0)).2.1:Nat):Int)):=by rw [h.cell (by omega),lc_f2]
theorem Lg.f3 {w:World} {l:Nat} {A:Int→Option Nat} {F:Int→Option Fn} (h:Lg w l A F) {f:Nat} (hf:f<64):w.cell? ⟨l,32+f*4+3,none⟩=some (.int .i64 ((((F (f:Int)).getD (0,0,0)).2.2:Nat):Int)):=by rw [h.cell (by omega),lc_f3]
theorem built_led:Tryz.prog.built 105 []=some ((List.replicate 16 [Value.bool false,.int .i64 0]).flatten ++ (List.replicate 64 [Value.bool false,.int .i64 0,.int .i64 0,.int .i64 0]).flatten).toArray:=by kernel_rfl
theorem l_new (w:World):Calls Tryz.prog 25 #[] w fun e w'=>e=.returned (.pointer (some ⟨w.heap.size,0,none⟩))∧Lg w' w.heap.size (fun _=>none) (fun _=>none)∧Below w.heap.size w w':=by
 go_enter Tryz.func25,Tryz.ntmps25
 have hb:=built_led;rw [←lrow_zero] at hb;obtain ⟨C,hC⟩:∃ C,(lrow (fun _=>none) (fun _=>none)).toArray=C:=⟨_,rfl⟩;rw [hC] at hb;have HC:=Lib.hid hC;have HB:=Lib.hid hb;clear hC hb
 go_wp2_with (first
  | (with_reducible refine wpList_build_none rfl 105 rfl C HB.out ?_)
  | (with_reducible refine wpList_box_row rfl 105 (.tmp 1) rfl C rfl ?_))
 go_ret
 refine ⟨rfl,⟨Ab.zero,?_⟩,(Below.refl _ _).alloc (Nat.le_refl _) _⟩;rw [heap_alloc_new,←HC.out]
theorem isA_any (x:Int) (w:World):Calls Tryz.prog 118 #[.int .i64 x] w fun e w'=>e=.returned (.bool (isA x))∧w=w':=by
 by_cases h:0≤x
 ·have d:decide (0≤x)=true:=decide_eq_true h
  have r:isA x=decide (x<16):=by unfold isA;rw [d];rfl
  rw [r];clear r h
  go_enter Tryz.func118,Tryz.ntmps118
  go_wp2
  go_ret
  exact ⟨rfl,rfl⟩
 ·have d:decide (0≤x)=false:=dec_f h
  have r:isA x=false:=by unfold isA;rw [d];rfl
  rw [r];clear r h
  go_enter Tryz.func118,Tryz.ntmps118
  go_wp2
  go_ret
  exact ⟨rfl,rfl⟩
theorem isF_any (x:Int) (w:World):Calls Tryz.prog 58 #[.int .i64 x] w fun e w'=>e=.returned (.bool (isF x))∧w=w':=by
 by_cases h:0≤x
 ·have d:decide (0≤x)=true:=decide_eq_true h
  have r:isF x=decide (x<64):=by unfold isF;rw [d];rfl
  rw [r];clear r h
  go_enter Tryz.func58,Tryz.ntmps58
  go_wp2
  go_ret
  exact ⟨rfl,rfl⟩
 ·have d:decide (0≤x)=false:=dec_f h
  have r:isF x=false:=by unfold isF;rw [d];rfl
  rw [r];clear r h
  go_enter Tryz.func58,Tryz.ntmps58
  go_wp2
  go_ret
  exact ⟨rfl,rfl⟩
theorem isC_any (x:Int) (w:World):Calls Tryz.prog 119 #[.int .i64 x] w fun e w'=>e=.returned (.bool (isC x))∧w=w':=by
 by_cases h:0≤x
 ·have d:decide (0≤x)=true:=decide_eq_true h
  have r:isC x=decide (x≤1000):=by unfold isC;rw [d];rfl
  rw [r];clear r h
  go_enter Tryz.func119,Tryz.ntmps119
  go_wp2
  go_ret
  exact ⟨rfl,rfl⟩
 ·have d:decide (0≤x)=false:=dec_f h
  have r:isC x=false:=by unfold isC;rw [d];rfl
  rw [r];clear r h
  go_enter Tryz.func119,Tryz.ntmps119
  go_wp2
  go_ret
  exact ⟨rfl,rfl⟩
theorem l_has (l:Nat) (A:Int→Option Nat) (F:Int→Option Fn) (x:Int) (w:World) (h:Lg w l A F):Calls Tryz.prog 37 #[.pointer (some ⟨l,0,none⟩),.int .i64 x] w fun e w'=>e=.returned (.bool (F x).isSome)∧w=w':=by
 cases hx:isF x with
 | true =>
  obtain ⟨f,rfl,hf⟩:=isF_nat hx;have c:=h.f0 hf;obtain ⟨v,hv⟩:∃ v,(F (f:Int)).isSome=v:=⟨_,rfl⟩;rw [hv] at c;rw [hv];have hfi:(f:Int)<64:=by omega
  have HX:=Lib.hid hx;clear hv hx h
  go_enter Tryz.func37,Tryz.ntmps37
  go_wp2_with fail
  refine (isF_any _ _).mono ?_;rintro e w' ⟨rfl,rfl⟩;rw [HX.out]
  go_wp2
  go_ret
  exact ⟨rfl,rfl⟩
 | false =>
  rw [h.ab.noF hx];have HX:=Lib.hid hx;clear hx h
  go_enter Tryz.func37,Tryz.ntmps37
  go_wp2_with fail
  refine (isF_any _ _).mono ?_;rintro e w' ⟨rfl,rfl⟩;rw [HX.out]
  go_wp2
  go_ret
  exact ⟨rfl,rfl⟩
theorem l_busy (l:Nat) (A:Int→Option Nat) (F:Int→Option Fn) (x:Int) (w:World) (h:Lg w l A F):Calls Tryz.prog 21 #[.pointer (some ⟨l,0,none⟩),.int .i64 x] w fun e w'=>e=.returned (.int .i64 (busy F x:Int))∧w=w':=by
 have H:=Lib.hid h
 cases hx:F x with
 | some v =>
  obtain ⟨o,r,b⟩:=v;have hb:=h.ab.f0 _ _ _ _ hx;obtain ⟨f,rfl⟩:∃ f:Nat,x=(f:Int):=⟨x.toNat,by omega⟩
  have c:=h.f3 (f:=f) (by omega)
  have e1:busy F (f:Int)=b:=by unfold busy;rw [hx];rfl
  rw [hx] at c;rw [e1];have c':w.cell? ⟨l,32+f*4+3,none⟩=some (.int .i64 (b:Int)):=c;have hfi:(f:Int)<64:=by omega
  have HX:=Lib.hid hx;clear hx h c hb e1
  go_enter Tryz.func21,Tryz.ntmps21
  go_wp2_with fail
  refine (l_has l A F _ _ H.out).mono ?_;rintro e w' ⟨rfl,rfl⟩;rw [HX.out]
  go_wp2
  go_ret
  exact ⟨rfl,rfl⟩
 | none =>
  have e1:busy F x=0:=by unfold busy;rw [hx];rfl
  rw [e1];have HX:=Lib.hid hx;clear hx h e1
  go_enter Tryz.func21,Tryz.ntmps21
  go_wp2_with fail
  refine (l_has l A F _ _ H.out).mono ?_;rintro e w' ⟨rfl,rfl⟩;rw [HX.out]
  go_wp2
  go_ret
  exact ⟨rfl,rfl⟩
theorem sizeFn:(Tryz.prog.info? 99).map (·.size)=some 4:=by kernel_rfl
theorem sizeFns:(Tryz.prog.info? 103).map (·.size)=some 256:=by kernel_rfl
theorem sizeSums:(Tryz.prog.info? 141).map (·.size)=some 3:=by kernel_rfl
def frow (A:Int→Option Nat) (F:Int→Option Fn):List Value:=(List.range 256).map (fun j=>lc A F (32+j))
theorem frow_len (A:Int→Option Nat) (F:Int→Option Fn):(frow A F).length=256:=by simp [frow]
theorem frow_at (A:Int→Option Nat) (F:Int→Option Fn) {j:Nat} (h:j<256):(frow A F)[j]?=some (lc A F (32+j)):=by
 unfold frow;rw [List.getElem?_map,List.getElem?_range h];rfl
theorem Lg.range {w:World} {l:Nat} {A:Int→Option Nat} {F:Int→Option Fn} (h:Lg w l A F):w.rangeAt l 32 (frow A F):=by
 intro j v hv;have hj:j<256:=by have:=(List.getElem?_eq_some_iff.1 hv).1;rwa [frow_len] at this
 rw [frow_at A F hj] at hv
 cases hv
 exact h.cell (by omega)
def fcell (v:Option Fn):Array Value:=#[.bool v.isSome,.int .i64 (((v.getD (0,0,0)).1:Nat):Int),.int .i64 (((v.getD (0,0,0)).2.1:Nat):Int),.int .i64 (((v.getD (0,0,0)).2.2:Nat):Int)]
theorem frow_cut (A:Int→Option Nat) (F:Int→Option Fn) {f:Nat} (h:f<64):(frow A F).toArray.extract (f*4) (f*4+4)=fcell (F (f:Int)):=by
 have h0:=frow_at A F (j:=f*4) (by omega)
 have h1:=frow_at A F (j:=f*4+1) (by omega)
 have h2:=frow_at A F (j:=f*4+2) (by omega)
 have h3:=frow_at A F (j:=f*4+3) (by omega)
 rw [lc_f0] at h0;rw [←Nat.add_assoc,lc_f1] at h1;rw [←Nat.add_assoc,lc_f2] at h2;rw [←Nat.add_assoc,lc_f3] at h3;have hl:=frow_len A F
 apply Array.ext_getElem?
 intro j;rw [Array.getElem?_extract];simp only [List.getElem?_toArray,List.size_toArray,hl]
 rcases (show j=0∨j=1∨j=2∨j=3∨4≤j by omega) with rfl | rfl | rfl | rfl | hj
 ·rw [if_pos (by omega),Nat.add_zero,h0];rfl
 ·rw [if_pos (by omega),h1];rfl
 ·rw [if_pos (by omega),h2];rfl
 ·rw [if_pos (by omega),h3];rfl
 ·rw [if_neg (by omega),Array.getElem?_eq_none (by simpa [fcell] using hj)]
abbrev Sums (p q o:Nat):Value:=.agg #[.int .i64 (p:Int),.int .i64 (q:Int),.int .i64 (o:Int)]
theorem wpList_store_sums {w:World} {ops:Array Oper} {rest:List Oper} {o:Oper} {a:Act} {Q:Exit→Act→World→Prop} (hgd:o.guard=none) (x y:Operand) (ho:o.op=.store 141 x y)
  (g:Nat) (h p e:Nat) (hx:a.eval x=.pointer (some ⟨g,0,none⟩)) (hy:a.eval y=Sums h p e) (i j k:Nat)
  (HG:Hid (w.heap[g]?=some (.cells [Value.int .i64 (i:Int),.int .i64 (j:Int),.int .i64 (k:Int)].toArray 141 (0,0))))
  (hn:∀ w',Hid (w'.heap[g]?=some (.cells #[.int .i64 (h:Int),.int .i64 (p:Int),.int .i64 (e:Int)] 141 (0,0)))→w.grownBy w' (some g)→wpList Tryz.prog ops Q rest (a.put o.dst undef) w'):wpList Tryz.prog ops Q (o :: rest) a w:=by
 refine wpList_store_row hgd _ x y ho g _ hx hy _ _ HG.out sizeSums rfl (by simp [Value.oneCell']) ?_
 exact hn _ (show _=_ from setRow_heap w g _ _ _ _ HG.out) ⟨rfl,rfl,rfl,by simp [World.setRow],fun k _ hk=>setRow_other w g k _ (by intro e;exact hk (by rw [e]))⟩
theorem ret_sums {g:Nat} {h p e:Nat} {w:World} {fn:Func} {t:Tmp} {tmps:Array Value} (hf:fn.results=#[.cell t 141]) (ht:tmps.getD t undef=.pointer (some ⟨g,0,none⟩))
  (HG:Hid (w.heap[g]?=some (.cells #[.int .i64 (h:Int),.int .i64 (p:Int),.int .i64 (e:Int)] 141 (0,0)))):(results fn tmps).run Tryz.prog w=.ok (Sums h p e) w :=
 results_cell_row hf tmps w g _ _ _ _ ht HG.out Tryz.underlying141 rfl sizeSums
structure Sm (w wr:World) (s t p q o:Nat):Prop where
 res:wr.heap[s]?=some (.cells [Value.int .i64 ((0:Nat):Int),.int .i64 ((0:Nat):Int),.int .i64 ((0:Nat):Int)].toArray 141 (0,0))
 all:wr.heap[t]?=some (.cells [Value.int .i64 (p:Int),.int .i64 (q:Int),.int .i64 (o:Int)].toArray 141 (0,0))
 bel:Below w.heap.size w wr
theorem Sm.below {w wr w':World} {s t p q o:Nat} (h:Sm w wr s t p q o) (hb:Below wr.heap.size wr w'):Sm w w' s t p q o :=
 ⟨by rw [hb.block s (lt_of_row h.res)];exact h.res,by rw [hb.block t (lt_of_row h.all)];exact h.all,h.bel.trans (hb.mono h.bel.size)⟩
theorem Sm.put {w wr w':World} {s t p q o p' q' o':Nat} (h:Sm w wr s t p q o) (hs:s≠t) (ht:w.heap.size≤t) (hg:wr.grownBy w' (some t)) (hr:w'.heap[t]?=some (.cells [Value.int .i64 (p':Int),.int .i64 (q':Int),.int .i64 (o':Int)].toArray 141 (0,0))):Sm w w' s t p' q' o' :=
 ⟨row_kept h.res hg hs,hr,below_row h.bel ht hg h.bel.size⟩
theorem l_sum (l:Nat) (A:Int→Option Nat) (F:Int→Option Fn) (a:Int) (w:World) (h:Lg w l A F) :
  Calls Tryz.prog 61 #[.pointer (some ⟨l,0,none⟩),.int .i64 a] w fun e w'=>e=.returned (Sums (sR F a) (sB F a) (sO F a))∧Below w.heap.size w w':=by
 obtain ⟨w0,hw0⟩:∃ w0,w0=(w.alloc (.cells #[Value.int .i64 0,.int .i64 0,.int .i64 0] 141)).alloc (.cells #[Value.int .i64 0,.int .i64 0,.int .i64 0] 141):=⟨_,rfl⟩;have b0:Below w.heap.size w w0:=by rw [hw0];exact ((Below.refl _ _).alloc (Nat.le_refl _) _).alloc (by simp) _
 have h0:Lg w0 l A F:=h.keep b0 h.lt
 have hS:Sm w w0 w.heap.size (w.heap.size+1) 0 0 0:=by
  refine ⟨?_,?_,b0⟩
  ·rw [hw0,Below.heap_alloc _ _ _ (by simp)];exact heap_alloc_new _ _
  ·rw [hw0];have:=heap_alloc_new (w.alloc (.cells #[Value.int .i64 0,.int .i64 0,.int .i64 0] 141)) (.cells #[Value.int .i64 0,.int .i64 0,.int .i64 0] 141);rw [World.size_alloc] at this;exact this
 have hR:=Lib.hid h0.range;have ab:=Lib.hid h.ab;obtain ⟨C,hC⟩:∃ C,frow A F=C:=⟨_,rfl⟩;have HC:=Lib.hid hC;have hRC:Hid (w0.rangeAt l 32 C):=by rw [←hC];exact hR
 have hCl:Hid ((Tryz.prog.info? 103).map (·.size)=some C.length):=Lib.hid (by rw [←hC,frow_len];exact sizeFns)
 have HW0:=Lib.hid hw0;clear hC hw0 h h0 hR b0
 go_enter Tryz.func61,Tryz.ntmps61
 go_upto_region 2 with (fail)
 rw [←HW0.out];have hst:w.heap.size≠w.heap.size+1:=by omega
 have hlt:w.heap.size≤w.heap.size+1:=by omega
 obtain ⟨t,ht⟩:∃ t,w.heap.size+1=t:=⟨_,rfl⟩;rw [ht] at hS hst hlt;rw [ht];obtain ⟨s,hs⟩:∃ s,w.heap.size=s:=⟨_,rfl⟩;rw [hs] at hS hst;rw [hs];have HS:=Lib.hid hs;clear hs ht;go_wp2_with (with_reducible refine wpList_load_mid rfl 103 (.tmp 10) rfl l 32 rfl C _ hRC.out Tryz.underlying103 rfl hCl.out ?_)
 go_loopg [12] 64 (fun gk vi wr=>∃ i:Nat,vi=.int .i64 (i:Int)∧i+gk=64∧Sm w wr s t (sumN (gR F a) i) (sumN (gB F a) i) (sumN (gO F a) i))
 case atStart=>exact ⟨0,rfl,rfl,hS⟩
 case round =>
  clear hS;obtain ⟨i,rfl,hik,hz⟩:=hrel;have HIK:=Lib.hid hik
  by_cases hi:i<64
  ·have hii:(i:Int)<64:=by omega
   clear hik;have hcut:=frow_cut A F hi;rw [HC.out] at hcut
   cases hv:F (i:Int) with
   | none =>
    rw [hv] at hcut;have HCUT:Hid (C.toArray.extract (i*4) (i*4+4)=#[.bool false,.int .i64 0,.int .i64 0,.int .i64 0]):=hcut;have e1:sumN (gR F a) (i+1)=sumN (gR F a) i:=by rw [sumN,gR_none hv];rfl
    have e2:sumN (gB F a) (i+1)=sumN (gB F a) i:=by rw [sumN,gB_none hv];rfl
    have e3:sumN (gO F a) (i+1)=sumN (gO F a) i:=by rw [sumN,gO_none hv];rfl
    rw [←e1,←e2,←e3] at hz;clear hcut e1 e2 e3 hv;go_upto_region 5 with (with_reducible refine wpList_index_row rfl 103 (.tmp 11) (.tmp 12) rfl 64 99 Tryz.underlying103 _ Tryz.underlying99 rfl 4 sizeFn C rfl .i64 i rfl hi _ HCUT.out ?_)
    have hb3:Below wr.heap.size wr (wr.alloc (.cells #[.bool false,.int .i64 0,.int .i64 0,.int .i64 0] 99)):=(Below.refl _ _).alloc (Nat.le_refl _) _;have hz3:=hz.below hb3;have HQ:=Lib.hid (heap_alloc_new wr (.cells #[.bool false,.int .i64 0,.int .i64 0,.int .i64 0] 99));have hqt:wr.heap.size≠t:=by have:=lt_of_row hz.all;omega
    obtain ⟨qa,hqa⟩:∃ q,wr.heap.size=q:=⟨_,rfl⟩;rw [hqa] at HQ hqt;rw [hqa];clear hqa hb3 hz;generalize wr.alloc (.cells #[.bool false,.int .i64 0,.int .i64 0,.int .i64 0] 99)=w3 at hz3 HQ ⊢;have y0:=cell_of_row _ _ 0 _ _ _ HQ.out;have y1:=cell_of_row _ _ 1 _ _ _ HQ.out;have y2:=cell_of_row _ _ 2 _ _ _ HQ.out;have y3:=cell_of_row _ _ 3 _ _ _ HQ.out;go_wp2_with fail
    go_roundg (gk-1)
    case measure=>have:=HIK.out;omega
    case rel=>exact ⟨i+1,by go_num,by have:=HIK.out;omega,hz3⟩
   | some v =>
    obtain ⟨o,r,b⟩:=v;rw [hv] at hcut;have HCUT:Hid (C.toArray.extract (i*4) (i*4+4)=#[.bool true,.int .i64 (o:Int),.int .i64 (r:Int),.int .i64 (b:Int)]):=hcut;have hbd:=ab.out.f0 _ _ _ _ hv;have HV:=Lib.hid hv;have hoI:(o:Int)<16:=by omega
    have hrI:(r:Int)≤1000:=by omega
    have hbI:(b:Int)≤1000:=by omega
    clear hcut hv hbd
    by_cases hoa:(o:Int)=a
    ·have hp1:=sumN_bound (ab.out.gR a) i
     have hp2:=sumN_bound (ab.out.gB a) i;have hp3:=sumN_bound (ab.out.gO a) i;have hpI:(sumN (gR F a) i:Int)≤64000:=by omega
     have hqI:(sumN (gB F a) i:Int)≤64000:=by omega
     have hsI:(sumN (gO F a) i:Int)≤64000:=by omega
     have e1:sumN (gR F a) (i+1)=sumN (gR F a) i+r:=by rw [sumN,gR_some HV.out,if_pos hoa]
     have e2:sumN (gB F a) (i+1)=sumN (gB F a) i+b:=by rw [sumN,gB_some HV.out,if_pos hoa]
     have e3:sumN (gO F a) (i+1)=sumN (gO F a) i+if r=0 then b else 0:=by rw [sumN,gO_some HV.out];simp only [hoa,true_and]
     obtain ⟨p,hp⟩:∃ p,sumN (gR F a) i=p:=⟨_,rfl⟩;obtain ⟨q,hq⟩:∃ q,sumN (gB F a) i=q:=⟨_,rfl⟩;obtain ⟨u,hu⟩:∃ u,sumN (gO F a) i=u:=⟨_,rfl⟩;rw [hp] at hz hpI e1;rw [hq] at hz hqI e2;rw [hu] at hz hsI e3;have E1:=Lib.hid e1;have E2:=Lib.hid e2;have E3:=Lib.hid e3;have hoa':((o:Int) == a)=true:=by simpa using hoa
     have HOA:=Lib.hid hoa;clear hp1 hp2 hp3 hp hq hu e1 e2 e3 hoa;go_upto_region 5 with (with_reducible refine wpList_index_row rfl 103 (.tmp 11) (.tmp 12) rfl 64 99 Tryz.underlying103 _ Tryz.underlying99 rfl 4 sizeFn C rfl .i64 i rfl hi _ HCUT.out ?_)
     have hb3:Below wr.heap.size wr (wr.alloc (.cells #[.bool true,.int .i64 (o:Int),.int .i64 (r:Int),.int .i64 (b:Int)] 99)):=(Below.refl _ _).alloc (Nat.le_refl _) _;have hz3:=hz.below hb3;have HQ:=Lib.hid (heap_alloc_new wr (.cells #[.bool true,.int .i64 (o:Int),.int .i64 (r:Int),.int .i64 (b:Int)] 99));have hqt:wr.heap.size≠t:=by have:=lt_of_row hz.all;omega
     obtain ⟨qa,hqa⟩:∃ q,wr.heap.size=q:=⟨_,rfl⟩;rw [hqa] at HQ hqt;rw [hqa];clear hqa hb3 hz;generalize wr.alloc (.cells #[.bool true,.int .i64 (o:Int),.int .i64 (r:Int),.int .i64 (b:Int)] 99)=w3 at hz3 HQ ⊢;have y0:=cell_of_row _ _ 0 _ _ _ HQ.out;have y1:=cell_of_row _ _ 1 _ _ _ HQ.out;have y2:=cell_of_row _ _ 2 _ _ _ HQ.out;have y3:=cell_of_row _ _ 3 _ _ _ HQ.out;have k0:=cellL hz3.all 0 _ rfl;have k1:=cellL hz3.all 1 _ rfl;have k2:=cellL hz3.all 2 _ rfl;have HZ:=Lib.hid hz3;have HA3:=Lib.hid hz3.all;clear hz3
     by_cases hr0:r=0
     ·subst hr0
      go_wp2_with (first
       | (with_reducible refine wpList_store_in rfl 3 (.tmp 29) (.tmp 28) rfl (by kernel_rfl) t 0 rfl .i64 ((p:Int)) rfl _ _ HA3.out (by simp) ?_;intro w4 Hw4 gw4;have kw40:=cellL Hw4.out 0 _ rfl;have kw41:=cellL Hw4.out 1 _ rfl;have kw42:=cellL Hw4.out 2 _ rfl;have Qw4:=Lib.hid (row_kept HQ.out gw4 hqt);have zw42:=cell_of_row _ _ 2 _ _ _ Qw4.out;have zw43:=cell_of_row _ _ 3 _ _ _ Qw4.out)
       | (with_reducible refine wpList_store_in rfl 3 (.tmp 29) (.tmp 28) rfl (by kernel_rfl) t 0 rfl .i64 ((p:Int)+((0:Nat):Int)) rfl _ _ HA3.out (by simp) ?_;intro w4 Hw4 gw4;have kw40:=cellL Hw4.out 0 _ rfl;have kw41:=cellL Hw4.out 1 _ rfl;have kw42:=cellL Hw4.out 2 _ rfl;have Qw4:=Lib.hid (row_kept HQ.out gw4 hqt);have zw42:=cell_of_row _ _ 2 _ _ _ Qw4.out;have zw43:=cell_of_row _ _ 3 _ _ _ Qw4.out)
       | (with_reducible refine wpList_store_in rfl 3 (.tmp 35) (.tmp 34) rfl (by kernel_rfl) t 1 rfl .i64 ((q:Int)+(b:Int)) rfl _ _ Hw4.out (by simp) ?_;intro w5 Hw5 gw5;have kw50:=cellL Hw5.out 0 _ rfl;have kw51:=cellL Hw5.out 1 _ rfl;have kw52:=cellL Hw5.out 2 _ rfl;have Qw5:=Lib.hid (row_kept Qw4.out gw5 hqt);have zw52:=cell_of_row _ _ 2 _ _ _ Qw5.out;have zw53:=cell_of_row _ _ 3 _ _ _ Qw5.out)
       | (with_reducible refine wpList_store_in rfl 3 (.tmp 44) (.tmp 43) rfl (by kernel_rfl) t 2 rfl .i64 ((u:Int)+(b:Int)) rfl _ _ Hw5.out (by simp) ?_;intro w6 Hw6 gw6;have kw60:=cellL Hw6.out 0 _ rfl;have kw61:=cellL Hw6.out 1 _ rfl;have kw62:=cellL Hw6.out 2 _ rfl;have Qw6:=Lib.hid (row_kept Qw5.out gw6 hqt);have zw62:=cell_of_row _ _ 2 _ _ _ Qw6.out;have zw63:=cell_of_row _ _ 3 _ _ _ Qw6.out))
      have g6:=grown_trans (grown_trans gw4 gw5) gw6;have hN:Sm w w6 s t p (q+b) (u+b):=HZ.out.put hst hlt g6 (by rw [Hw6.out];simp)
      go_roundg (gk-1)
      case measure=>have:=HIK.out;omega
      case rel=>exact ⟨i+1,by go_num,by have:=HIK.out;omega,by rw [E1.out,E2.out,E3.out];exact hN⟩
     ·have hr1:((r:Int) == 0)=false:=by simp;omega
      go_wp2_with (first
       | (with_reducible refine wpList_store_in rfl 3 (.tmp 29) (.tmp 28) rfl (by kernel_rfl) t 0 rfl .i64 ((p:Int)+(r:Int)) rfl _ _ HA3.out (by simp) ?_;intro w4 Hw4 gw4;have kw40:=cellL Hw4.out 0 _ rfl;have kw41:=cellL Hw4.out 1 _ rfl;have kw42:=cellL Hw4.out 2 _ rfl;have Qw4:=Lib.hid (row_kept HQ.out gw4 hqt);have zw42:=cell_of_row _ _ 2 _ _ _ Qw4.out;have zw43:=cell_of_row _ _ 3 _ _ _ Qw4.out)
       | (with_reducible refine wpList_store_in rfl 3 (.tmp 35) (.tmp 34) rfl (by kernel_rfl) t 1 rfl .i64 ((q:Int)+(b:Int)) rfl _ _ Hw4.out (by simp) ?_;intro w5 Hw5 gw5;have kw50:=cellL Hw5.out 0 _ rfl;have kw51:=cellL Hw5.out 1 _ rfl;have kw52:=cellL Hw5.out 2 _ rfl;have Qw5:=Lib.hid (row_kept Qw4.out gw5 hqt);have zw52:=cell_of_row _ _ 2 _ _ _ Qw5.out;have zw53:=cell_of_row _ _ 3 _ _ _ Qw5.out))
      have g6:=grown_trans gw4 gw5;have hN:Sm w w5 s t (p+r) (q+b) u:=HZ.out.put hst hlt g6 (by rw [Hw5.out];simp)
      go_roundg (gk-1)
      case measure=>have:=HIK.out;omega
      case rel=>exact ⟨i+1,by go_num,by have:=HIK.out;omega,by rw [E1.out,E2.out,E3.out,if_neg hr0];exact hN⟩
    ·have hoa':((o:Int) == a)=false:=by simpa using hoa
     have e1:sumN (gR F a) (i+1)=sumN (gR F a) i:=by rw [sumN,gR_some HV.out,if_neg hoa];rfl
     have e2:sumN (gB F a) (i+1)=sumN (gB F a) i:=by rw [sumN,gB_some HV.out,if_neg hoa];rfl
     have e3:sumN (gO F a) (i+1)=sumN (gO F a) i:=by rw [sumN,gO_some HV.out,if_neg (fun q=>hoa q.1)];rfl
     rw [←e1,←e2,←e3] at hz;clear e1 e2 e3 hoa;go_upto_region 5 with (with_reducible refine wpList_index_row rfl 103 (.tmp 11) (.tmp 12) rfl 64 99 Tryz.underlying103 _ Tryz.underlying99 rfl 4 sizeFn C rfl .i64 i rfl hi _ HCUT.out ?_)
     have hb3:Below wr.heap.size wr (wr.alloc (.cells #[.bool true,.int .i64 (o:Int),.int .i64 (r:Int),.int .i64 (b:Int)] 99)):=(Below.refl _ _).alloc (Nat.le_refl _) _;have hz3:=hz.below hb3;have HQ:=Lib.hid (heap_alloc_new wr (.cells #[.bool true,.int .i64 (o:Int),.int .i64 (r:Int),.int .i64 (b:Int)] 99));have hqt:wr.heap.size≠t:=by have:=lt_of_row hz.all;omega
     obtain ⟨qa,hqa⟩:∃ q,wr.heap.size=q:=⟨_,rfl⟩;rw [hqa] at HQ hqt;rw [hqa];clear hqa hb3 hz;generalize wr.alloc (.cells #[.bool true,.int .i64 (o:Int),.int .i64 (r:Int),.int .i64 (b:Int)] 99)=w3 at hz3 HQ ⊢;have y0:=cell_of_row _ _ 0 _ _ _ HQ.out;have y1:=cell_of_row _ _ 1 _ _ _ HQ.out;have y2:=cell_of_row _ _ 2 _ _ _ HQ.out;have y3:=cell_of_row _ _ 3 _ _ _ HQ.out;go_wp2_with fail
     go_roundg (gk-1)
     case measure=>have:=HIK.out;omega
     case rel=>exact ⟨i+1,by go_num,by have:=HIK.out;omega,hz3⟩
  ·obtain rfl:i=64:=by omega
   clear hik HIK hi;have k0:=cellL hz.all 0 _ rfl;have k1:=cellL hz.all 1 _ rfl;have k2:=cellL hz.all 2 _ rfl;have HRS:=Lib.hid hz.res;obtain ⟨p,hp⟩:∃ p,sumN (gR F a) 64=p:=⟨_,rfl⟩;obtain ⟨q,hq⟩:∃ q,sumN (gB F a) 64=q:=⟨_,rfl⟩;obtain ⟨u,hu⟩:∃ u,sumN (gO F a) 64=u:=⟨_,rfl⟩;rw [hp] at hz k0;rw [hq] at hz k1;rw [hu] at hz k2;have HZ:=Lib.hid hz;have HP:=Lib.hid hp;have HQ:=Lib.hid hq;have HU:=Lib.hid hu;clear hz hp hq hu;go_wp2_with (with_reducible refine wpList_store_sums rfl (.tmp 4) (.tmp 46) rfl s p q u rfl rfl 0 0 0 HRS ?_;intro w4 HG hg4)
   refine bodyPost_ret (ret_sums (fn:=Tryz.f61) rfl rfl HG) rfl ⟨?_,?_⟩
   ·unfold sR sB sO;rw [HP.out,HQ.out,HU.out]
   ·exact below_row HZ.out.bel (Nat.le_of_eq HS.out) hg4 HZ.out.bel.size
theorem lrow_set (A:Int→Option Nat) (F:Int→Option Fn) (A':Int→Option Nat) (F':Int→Option Fn) (o:Nat):∀ (vs:List Value) (k:Nat) (cur:List Value),cur.length=288→k+vs.length≤288 →
  (∀ j,j<288→(k≤j∧j<k+vs.length→vs[j-k]?=some (lc A' F' j))∧(¬ (k≤j∧j<k+vs.length)→cur[j]?=some (lc A' F' j)))→setQ cur k vs=lrow A' F'
 | [],k,cur,hl,_,h=>by
  rw [setQ]
  apply List.ext_getElem?
  intro j
  by_cases hj:j<288
  ·rw [lrow_at A' F' hj];exact (h j hj).2 (by simp)
  ·rw [List.getElem?_eq_none (by omega),List.getElem?_eq_none (by rw [lrow_len];omega)]
 | v :: r,k,cur,hl,hk,h=>by
  rw [setQ];refine lrow_set A F A' F' o r (k+1) (cur.set k v) (by simpa using hl) (by simp at hk;omega) ?_
  intro j hj;obtain ⟨h1,h2⟩:=h j hj;simp only [List.length_cons] at h1 h2 hk
  constructor
  ·intro q
   have:=h1 (by omega)
   rw [show j-k=(j-(k+1))+1 by omega] at this
   simpa using this
  ·intro q
   by_cases e:j=k
   ·subst e
    rw [List.getElem?_set_self (by omega)]
    have:=h1 (by omega)
    simpa using this
   ·rw [List.getElem?_set_ne (by omega)]
    exact h2 (by omega)
theorem lc_far (A:Int→Option Nat) (F:Int→Option Fn) (A':Int→Option Nat) (F':Int→Option Fn) {j:Nat} (hA:j<32→A' ((j / 2:Nat):Int)=A ((j / 2:Nat):Int)) (hF:32≤j→F' (((j-32) / 4:Nat):Int)=F (((j-32) / 4:Nat):Int)):lc A' F' j=lc A F j:=by
 unfold lc
 by_cases h:j<32
 ·rw [hA h,if_pos h,if_pos h]
 ·rw [hF (by omega),if_neg h,if_neg h]
theorem lrow_account (A:Int→Option Nat) (F:Int→Option Fn) {x:Nat} (n:Nat) (hx:x<16):setQ (lrow A F) (x*2) [.bool true,.int .i64 (n:Int)]=lrow (updZ A (x:Int) (some n)) F:=by
 refine lrow_set A F _ F 0 _ _ _ (lrow_len A F) (by simp;omega) ?_
 intro j hj
 constructor
 ·intro q
  rcases (show j=x*2∨j=x*2+1 by simp at q;omega) with rfl | rfl
  ·rw [Nat.sub_self,lc_a0 _ _ hx,updZ_same];rfl
  ·rw [Nat.add_sub_cancel_left,lc_a1 _ _ hx,updZ_same];rfl
 ·intro q
  rw [lrow_at A F hj,lc_far A F _ F (fun h=>updZ_ne _ _ (by simp at q;omega)) (fun _=>rfl)]
theorem lrow_func (A:Int→Option Nat) (F:Int→Option Fn) {f:Nat} (o r b:Nat) (hf:f<64):setQ (lrow A F) (32+f*4) [.bool true,.int .i64 (o:Int),.int .i64 (r:Int),.int .i64 (b:Int)]=lrow A (updZ F (f:Int) (some (o,r,b))):=by
 refine lrow_set A F A _ 0 _ _ _ (lrow_len A F) (by simp;omega) ?_
 intro j hj
 constructor
 ·intro q
  rcases (show j=32+f*4∨j=32+f*4+1∨j=32+f*4+2∨j=32+f*4+3 by simp at q;omega) with rfl | rfl | rfl | rfl
  ·rw [Nat.sub_self,lc_f0,updZ_same];rfl
  ·rw [Nat.add_sub_cancel_left,lc_f1,updZ_same];rfl
  ·rw [Nat.add_sub_cancel_left,lc_f2,updZ_same];rfl
  ·rw [Nat.add_sub_cancel_left,lc_f3,updZ_same];rfl
 ·intro q
  rw [lrow_at A F hj,lc_far A F A _ (fun _=>rfl) (fun h=>updZ_ne _ _ (by simp at q;omega))]
theorem lrow_run (A:Int→Option Nat) (F:Int→Option Fn) {f o r b:Nat} (b':Nat) (hf:f<64) (h:F (f:Int)=some (o,r,b)):(lrow A F).set (32+f*4+3) (.int .i64 (b':Int))=lrow A (updZ F (f:Int) (some (o,r,b'))):=by
 show setQ (lrow A F) (32+f*4+3) [.int .i64 (b':Int)]=_;refine lrow_set A F A _ 0 [.int .i64 (b':Int)] _ _ (lrow_len A F) (by simp;omega) ?_
 intro j hj
 constructor
 ·intro q
  obtain rfl:j=32+f*4+3:=by simp at q;omega
  rw [Nat.sub_self,lc_f3,updZ_same];rfl
 ·intro q
  rw [lrow_at A F hj]
  by_cases e:32≤j∧(j-32) / 4=f
  ·rcases (show j=32+f*4∨j=32+f*4+1∨j=32+f*4+2 by simp at q;omega) with rfl | rfl | rfl
   ·rw [lc_f0,lc_f0,updZ_same,h];rfl
   ·rw [lc_f1,lc_f1,updZ_same,h];rfl
   ·rw [lc_f2,lc_f2,updZ_same,h];rfl
  ·rw [lc_far A F A _ (fun _=>rfl) (fun h=>updZ_ne _ _ (by omega))]
theorem Lg.account {w':World} {l:Nat} {A:Int→Option Nat} {F:Int→Option Fn} {x n:Nat} (h:Ab A F) (hx:x<16) (hn:n≤1000) (hr:w'.heap[l]?=some (.cells (setQ (lrow A F) (x*2) [.bool true,.int .i64 (n:Int)]).toArray 105 (0,0))):Lg w' l (updZ A (x:Int) (some n)) F :=
 ⟨h.account hx hn,by rw [hr,lrow_account A F n hx]⟩
theorem Lg.run {w':World} {l:Nat} {A:Int→Option Nat} {F:Int→Option Fn} {f o r b b':Nat} (h:Ab A F) (hF:F (f:Int)=some (o,r,b)) (hb:b'≤1000) (hr:w'.heap[l]?=some (.cells ((lrow A F).set (32+f*4+3) (.int .i64 (b':Int))).toArray 105 (0,0))):Lg w' l A (updZ F (f:Int) (some (o,r,b'))):=by
 have:=h.f0 _ _ _ _ hF
 exact ⟨h.func (by omega) (by omega) (by omega) hb,by rw [hr,lrow_run A F b' (by omega) hF]⟩
theorem sizeAcc:(Tryz.prog.info? 101).map (·.size)=some 2:=by kernel_rfl
theorem wpList_store_acc {w:World} {ops:Array Oper} {rest:List Oper} {o:Oper} {a:Act} {Q:Exit→Act→World→Prop} (hgd:o.guard=none) (x y:Operand) (ho:o.op=.store 101 x y)
  (l k m:Nat) (hx:a.eval x=.pointer (some ⟨l,k*2,none⟩)) (hy:a.eval y=.agg #[.bool true,.int .i64 (m:Int)]) (A:Int→Option Nat) (F:Int→Option Fn) (hg:Lg w l A F) (hk:k<16) (hm:m≤1000)
  (h:∀ w',Hid (Lg w' l (updZ A (k:Int) (some m)) F)→w.grownBy w' (some l)→wpList Tryz.prog ops Q rest (a.put o.dst undef) w'):wpList Tryz.prog ops Q (o :: rest) a w:=by
 refine wpList_store_part hgd _ x y ho l (k*2) [.bool true,.int .i64 (m:Int)] hx hy _ _ hg.row (by rw [lrow_len];simp;omega) sizeAcc (by simp [Value.oneCell']) ?_
 intro w' HG hgr;exact h w' (Lib.hid (Lg.account hg.ab hk hm HG.out)) hgr
theorem wpList_store_fn {w:World} {ops:Array Oper} {rest:List Oper} {o:Oper} {a:Act} {Q:Exit→Act→World→Prop} (hgd:o.guard=none) (x y:Operand) (ho:o.op=.store 99 x y)
  (l f k r b:Nat) (hx:a.eval x=.pointer (some ⟨l,32+f*4,none⟩)) (hy:a.eval y=.agg #[.bool true,.int .i64 (k:Int),.int .i64 (r:Int),.int .i64 (b:Int)]) (A:Int→Option Nat) (F:Int→Option Fn) (hg:Lg w l A F) (hf:f<64) (hk:k<16) (hr:r≤1000) (hb:b≤1000)
  (h:∀ w',Hid (Lg w' l A (updZ F (f:Int) (some (k,r,b))))→w.grownBy w' (some l)→wpList Tryz.prog ops Q rest (a.put o.dst undef) w'):wpList Tryz.prog ops Q (o :: rest) a w:=by
 refine wpList_store_part hgd _ x y ho l (32+f*4) [.bool true,.int .i64 (k:Int),.int .i64 (r:Int),.int .i64 (b:Int)] hx hy _ _ hg.row (by rw [lrow_len];simp;omega) sizeFn (by simp [Value.oneCell']) ?_
 intro w' HG hgr;exact h w' (Lib.hid ⟨hg.ab.func hf hk hr hb,by rw [HG.out,lrow_func A F k r b hf]⟩) hgr
theorem l_setA (l:Nat) (A:Int→Option Nat) (F:Int→Option Fn) (x n:Int) (w:World) (h:Lg w l A F) :
  Calls Tryz.prog 73 #[.pointer (some ⟨l,0,none⟩),.int .i64 x,.int .i64 n] w fun e w'=>e=.returned (.int .i64 (accC F x n:Int))∧Lg w' l (accA A F x n) F∧w.grownBy w' (some l):=by
 have H:=Lib.hid h;have hl:=h.lt;clear h
 cases hx:isA x with
 | false =>
  have e1:accC F x n=1:=by unfold accC;rw [hx];rfl
  have e2:accA A F x n=A:=by unfold accA;rw [e1];rfl
  rw [e1,e2];have HX:=Lib.hid hx;clear hx e1 e2
  go_enter Tryz.func73,Tryz.ntmps73
  go_wp2_with fail
  refine (isA_any _ _).mono ?_;rintro e w' ⟨rfl,rfl⟩;rw [HX.out]
  go_wp2
  go_ret
  exact ⟨rfl,H.out,World.grownBy.refl _ _⟩
 | true =>
  cases hn:isC n with
  | false =>
   have e1:accC F x n=1:=by unfold accC;rw [hx,hn];rfl
   have e2:accA A F x n=A:=by unfold accA;rw [e1];rfl
   rw [e1,e2];have HX:=Lib.hid hx;have HN:=Lib.hid hn;clear hx hn e1 e2
   go_enter Tryz.func73,Tryz.ntmps73
   go_wp2_with fail
   refine (isA_any _ _).mono ?_;rintro e w' ⟨rfl,rfl⟩;rw [HX.out];go_wp2_with fail
   refine (isC_any _ _).mono ?_;rintro e w' ⟨rfl,rfl⟩;rw [HN.out]
   go_wp2
   go_ret
   exact ⟨rfl,H.out,World.grownBy.refl _ _⟩
  | true =>
   have HX:=Lib.hid hx;have HN:=Lib.hid hn;obtain ⟨a,rfl,ha⟩:=isA_nat hx;obtain ⟨m,rfl,hm⟩:=isC_nat hn;have haI:(a:Int)<16:=by omega
   have hs:=H.out.ab.sR (a:Int);obtain ⟨p,hp⟩:∃ p,sR F (a:Int)=p:=⟨_,rfl⟩;obtain ⟨q,hq⟩:∃ q,sB F (a:Int)=q:=⟨_,rfl⟩;obtain ⟨u,hu⟩:∃ u,sO F (a:Int)=u:=⟨_,rfl⟩;have hfd:∀ w,(Instr.field 141 (Sums p q u) 0).run Tryz.prog w=.ok (.int .i64 (p:Int)) w:=fun w=>by kernel_rfl
   by_cases hpm:m<p
   ·have e1:accC F (a:Int) (m:Int)=4:=by unfold accC;rw [hx,hn,hp];simp [hpm]
    have e2:accA A F (a:Int) (m:Int)=A:=by unfold accA;rw [e1];rfl
    rw [e1,e2];have HP:=Lib.hid hp;have HQ:=Lib.hid hq;have HU:=Lib.hid hu;clear hx hn e1 e2 hp hq hu hs
    go_enter Tryz.func73,Tryz.ntmps73
    go_wp2_with fail
    refine (isA_any _ _).mono ?_;rintro e w' ⟨rfl,rfl⟩;rw [HX.out];go_wp2_with fail
    refine (isC_any _ _).mono ?_;rintro e w' ⟨rfl,rfl⟩;rw [HN.out];go_wp2_with fail
    refine (l_sum l A F _ _ H.out).mono ?_;rintro e w' ⟨rfl,b1⟩;rw [HP.out,HQ.out,HU.out]
    go_wp2
    go_ret
    exact ⟨rfl,H.out.keep b1 hl,below_grown b1 _⟩
   ·have e1:accC F (a:Int) (m:Int)=0:=by unfold accC;rw [hx,hn,hp];simp [hpm]
    have e2:accA A F (a:Int) (m:Int)=updZ A (a:Int) (some m):=by unfold accA;rw [e1];rfl
    rw [e1,e2];have HP:=Lib.hid hp;have HQ:=Lib.hid hq;have HU:=Lib.hid hu;clear hx hn e1 e2 hp hq hu hs
    go_enter Tryz.func73,Tryz.ntmps73
    go_wp2_with fail
    refine (isA_any _ _).mono ?_;rintro e w' ⟨rfl,rfl⟩;rw [HX.out];go_wp2_with fail
    refine (isC_any _ _).mono ?_;rintro e w' ⟨rfl,rfl⟩;rw [HN.out];go_wp2_with fail
    refine (l_sum l A F _ _ H.out).mono ?_;rintro e w' ⟨rfl,b1⟩;rw [HP.out,HQ.out,HU.out];have H1:=Lib.hid (H.out.keep b1 hl);go_wp2_with (with_reducible refine wpList_store_acc rfl (.tmp 27) (.tmp 24) rfl l a m rfl rfl A F H1.out ha hm ?_;intro w2 HG2 hg2)
    go_ret
    exact ⟨rfl,HG2.out,grown_trans (below_grown b1 _) hg2⟩
theorem l_end (l:Nat) (A:Int→Option Nat) (F:Int→Option Fn) (x:Int) (w:World) (h:Lg w l A F) :
  Calls Tryz.prog 150 #[.pointer (some ⟨l,0,none⟩),.int .i64 x] w fun e w'=>e=.returned (.bool (decide (0<busy F x)))∧Lg w' l A (endF F x)∧w.grownBy w' (some l):=by
 have H:=Lib.hid h
 cases hb:busy F x with
 | zero =>
  have e1:endF F x=F:=by unfold endF;rw [hb];rfl
  rw [e1];have HB:=Lib.hid hb;clear hb e1 h
  go_enter Tryz.func150,Tryz.ntmps150
  go_wp2_with fail
  refine (l_busy l A F x _ H.out).mono ?_;rintro e w' ⟨rfl,rfl⟩;rw [HB.out]
  go_wp2
  go_ret
  exact ⟨rfl,H.out,World.grownBy.refl _ _⟩
 | succ n =>
  cases hx:F x with
  | none=>unfold busy at hb;rw [hx] at hb;cases hb
  | some v =>
   obtain ⟨o,r,b⟩:=v;have hbd:=h.ab.f0 _ _ _ _ hx;obtain ⟨f,rfl⟩:∃ f:Nat,x=(f:Int):=⟨x.toNat,by omega⟩
   obtain rfl:b=n+1:=by unfold busy at hb;rw [hx] at hb;exact hb
   have e1:endF F (f:Int)=updZ F (f:Int) (some (o,r,n)):=by unfold endF;rw [hb,hx];rfl
   rw [e1];have c:=h.f3 (f:=f) (by omega)
   rw [hx] at c;have c':w.cell? ⟨l,32+f*4+3,none⟩=some (.int .i64 ((n:Int)+1)):=c;have hfi:(f:Int)<64:=by omega
   have hnI:(n:Int)≤1000:=by omega
   have hn1:(n:Int)+1-1=n:=by omega
   have hn0:((n:Int)+1 == 0)=false:=by simp;omega
   have hnw:IntKind.i64.wrap (n:Int)=(n:Int):=by rw [IntKind.wrap_i64];omega
   have hlen:32+f*4+3<(lrow A F).length:=by rw [lrow_len];omega
   have HB:=Lib.hid hb;have HX:=Lib.hid hx;have HLEN:=Lib.hid hlen;have hrow:=Lib.hid h.row;have hnle:=Lib.hid (show n≤1000 by omega)
   clear hb hx h c e1 hbd hlen
   go_enter Tryz.func150,Tryz.ntmps150
   go_wp2_with fail
   refine (l_busy l A F (f:Int) _ H.out).mono ?_;rintro e w' ⟨rfl,rfl⟩;rw [HB.out];go_wp2_with fail
   go_still_tail 12,(by kernel_rfl)
   change wpList _ _ _ _ _ w.drew;have hd:=grown_drew (World.grownBy.refl w (some l));have hg1:Hid (w.drew.heap[l]?=_):=hrow;generalize w.drew=w1 at hd hg1 ⊢;refine wpList_store_in rfl 3 (.tmp 20) (.tmp 16) rfl (by kernel_rfl) l (32+f*4+3) rfl .i64 (n:Int) rfl _ _ hg1.out HLEN.out ?_
   intro w2 HG2 hg2
   go_wp2
   go_ret
   exact ⟨by simp,Lg.run H.out.ab HX.out hnle.out HG2.out,grown_trans hd hg2⟩
theorem ask_none {A:Int→Option Nat} {F:Int→Option Fn} {x:Int} (h:F x=none):askC A F x=(0,false):=by unfold askC;rw [h]
theorem ask_some {A:Int→Option Nat} {F:Int→Option Fn} {x:Int} {o r b:Nat} (h:F x=some (o,r,b)):askC A F x=if 0<r∧r≤b then (1,true) else
   if ((A (o:Int)).getD 0:Nat)≤sB F (o:Int)∨(r=0∧((A (o:Int)).getD 0:Nat)≤sO F (o:Int)+sR F (o:Int)) then (2,true) else (0,true):=by unfold askC;rw [h]
theorem l_ask0 (l:Nat) (A:Int→Option Nat) (F:Int→Option Fn) (x:Int) (w:World) (h:Lg w l A F) (hF:F x=none) :
  Calls Tryz.prog 40 #[.pointer (some ⟨l,0,none⟩),.int .i64 x] w fun e w'=>e=.returned (.tuple #[.int .i64 ((askC A F x).1:Int),.bool (askC A F x).2])∧Below w.heap.size w w':=by
 rw [ask_none hF];have H:=Lib.hid h;have HF:=Lib.hid hF;clear h hF
 go_enter Tryz.func40,Tryz.ntmps40
 go_wp2_with fail
 refine (l_has l A F x _ H.out).mono ?_;rintro e w' ⟨rfl,rfl⟩;rw [HF.out]
 go_wp2
 go_ret2
 exact ⟨rfl,Below.refl _ _⟩
theorem l_ask1 (l:Nat) (A:Int→Option Nat) (F:Int→Option Fn) (x:Int) (w:World) (h:Lg w l A F) (o r b:Nat) (hF:F x=some (o,r,b)) (hr:0<r) (hb:r≤b) :
  Calls Tryz.prog 40 #[.pointer (some ⟨l,0,none⟩),.int .i64 x] w fun e w'=>e=.returned (.tuple #[.int .i64 ((askC A F x).1:Int),.bool (askC A F x).2])∧Below w.heap.size w w':=by
 rw [ask_some hF,if_pos ⟨hr,hb⟩];have H:=Lib.hid h;have hbd:=h.ab.f0 _ _ _ _ hF;obtain ⟨f,rfl⟩:∃ f:Nat,x=(f:Int):=⟨x.toNat,by omega⟩
 have hfi:(f:Int)<64:=by omega
 have f0:=h.f0 (f:=f) (by omega)
 have f1:=h.f1 (f:=f) (by omega)
 have f2:=h.f2 (f:=f) (by omega)
 have f3:=h.f3 (f:=f) (by omega)
 rw [hF] at f0 f1 f2 f3;have f0':w.cell? ⟨l,32+f*4,none⟩=some (.bool true):=f0;have f1':w.cell? ⟨l,32+f*4+1,none⟩=some (.int .i64 (o:Int)):=f1;have f2':w.cell? ⟨l,32+f*4+2,none⟩=some (.int .i64 (r:Int)):=f2;have f3':w.cell? ⟨l,32+f*4+3,none⟩=some (.int .i64 (b:Int)):=f3;have HF:=Lib.hid hF;clear h hF f0 f1 f2 f3 hbd
 go_enter Tryz.func40,Tryz.ntmps40
 go_wp2_with fail
 refine (l_has l A F _ _ H.out).mono ?_;rintro e w' ⟨rfl,rfl⟩;rw [HF.out]
 go_wp2
 go_ret2
 refine ⟨?_,(Below.refl _ _).alloc (Nat.le_refl _) _⟩;rfl
end Go.Proofs.YthdengocipfgiaaGreat.W
