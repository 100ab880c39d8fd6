import Derived.Test.YthdengocipfgiaaGreatCdA
import Derived.Test.YthdengocipfgiaaGreatCdB
/- A part of what core's laws stand on. -/
set_option linter.unusedVariables false
set_option linter.unusedSimpArgs false
namespace Go.Proofs.YthdengocipfgiaaGreat.W.C
open Go.RowKit Go.Proofs.YthdengocipfgiaaGreat.W
def rv (b:Bo) (f:Int):Nat:=if b.fn=f∧b.q.runs=true then 1 else 0
def runN (bx:Int→Option Bo) (f:Int) (j:Nat):Nat:=match bx ((j:Int)+1) with | some b=>rv b f | none=>0
theorem run_at {bx:Int→Option Bo} {i f:Int} {b:Bo} (h:bx i=some b) (hi:1≤i):runN bx f (i-1).toNat=rv b f:=by
 unfold runN;rw [show (((i-1).toNat:Nat):Int)+1=i by omega,h]
theorem run_ne {bx bx':Int→Option Bo} {f:Int} {j:Nat} (h:bx' ((j:Int)+1)=bx ((j:Int)+1)):runN bx' f j=runN bx f j:=by unfold runN;rw [h]
theorem run_set {bx bx':Int→Option Bo} {i f n:Int} {b b':Bo} (hne:∀ j,j≠i→bx' j=bx j) (hb:bx i=some b) (hb':bx' i=some b') (h1:1≤i) (h2:i≤n):sumN (runN bx' f) n.toNat+rv b f=sumN (runN bx f) n.toNat+rv b' f:=by
 have:=sumN_upd (g:=runN bx f) (g':=runN bx' f) (x:=(i-1).toNat) (fun j hj=>run_ne (hne _ (by omega))) (n:=n.toNat) (by omega)
 rw [run_at hb h1,run_at hb' h1] at this;exact this
theorem rv_off {b:Bo} {f:Int} (h:b.q.runs=false):rv b f=0:=by unfold rv;rw [h];simp
theorem rv_on {b:Bo} (h:b.q.runs=true):rv b b.fn=1:=by unfold rv;rw [h];simp
theorem rv_other {b:Bo} {f:Int} (h:b.fn≠f):rv b f=0:=by unfold rv;rw [if_neg (fun q=>h q.1)]
theorem rv_eq {b b':Bo} {f:Int} (h1:b'.fn=b.fn) (h2:b'.q.runs=b.q.runs):rv b' f=rv b f:=by unfold rv;rw [h1,h2]
theorem end_busy (F:Int→Option Fn) (x f:Int):busy (endF F x) f=if f=x then busy F x-1 else busy F f:=by
 unfold endF
 split
 ·rename_i h
  unfold busy updZ
  by_cases e:f=x
  ·rw [if_pos e,if_pos e]
   cases q:F x with
   | none=>rfl
   | some v=>rfl
  ·rw [if_neg e,if_neg e]
 ·split
  ·rename_i h e;rw [e];omega
  ·rfl
theorem end_some (F:Int→Option Fn) (x f:Int):(endF F x f).isSome=(F f).isSome:=by
 unfold endF
 split
 ·unfold updZ
  split
  ·rename_i e;rw [e];cases F x <;> rfl
  ·rfl
 ·rfl
theorem gv_sz {H:Int→Option Ht} {x m y:Int} {d:Bool} {z u:Nat} (h:gvH H x m y=some (d,z,u)):∃ d0 u0,H y=some (d0,z,u0):=by
 unfold gvH at h
 cases q:H x with
 | none=>rw [q] at h;exact ⟨_,_,h⟩
 | some t =>
  obtain ⟨d1,s1,u1⟩:=t;rw [q] at h;dsimp only at h
  by_cases c:0≤m∧m≤(u1:Int)
  ·rw [if_pos c,updZ_at] at h
   split at h
   ·rename_i e
    unfold lv at h
    split at h
    ·cases h
    ·cases h;exact ⟨_,_,by rw [e];exact q⟩
   ·exact ⟨_,_,h⟩
  ·rw [if_neg c] at h;exact ⟨_,_,h⟩
theorem tk_sz {H:Int→Option Ht} {x m y:Int} {d:Bool} {z u:Nat} (h:tkH H x m y=some (d,z,u)):∃ d0 u0,H y=some (d0,z,u0):=by
 unfold tkH at h
 cases q:H x with
 | none=>rw [q] at h;exact ⟨_,_,h⟩
 | some t =>
  obtain ⟨d1,s1,u1⟩:=t;rw [q] at h
  cases d1 with
  | true=>exact ⟨_,_,h⟩
  | false =>
   dsimp only at h
   by_cases c:0≤m∧m≤(s1:Int)-(u1:Int)
   ·rw [if_pos c,updZ_at] at h
    split at h
    ·rename_i e;cases h;exact ⟨_,_,by rw [e];exact q⟩
    ·exact ⟨_,_,h⟩
   ·rw [if_neg c] at h;exact ⟨_,_,h⟩
structure Mz (Z:Int→Int) (s:St):Prop where
 bz:∀ f,busy s.F f=sumN (runN s.bx f) s.last.toNat
 fx:∀ f,(s.fu.a f).isSome=true→(s.F f).isSome=true
 hz:∀ h d z u,s.H h=some (d,z,u)→Z h=(z:Int)
theorem gone_FH {s:St} {i:Int} {b:Bo} (hb:s.bx i=some b):(s.gone i).F=(if b.q.runs=true then endF s.F b.fn else s.F)∧(s.gone i).H=gvH s.H b.ho b.me:=by
 unfold St.gone;rw [St.B_of hb];dsimp only;obtain ⟨s2,hs2⟩:∃ s2,(if b.q.runs=true then (s.hold i).endC b.fn else s.hold i)=s2:=⟨_,rfl⟩
 have q:s2.bx=s.bx∧s2.H=s.H∧s2.F=(if b.q.runs=true then endF s.F b.fn else s.F):=by
  rw [←hs2];split <;> exact ⟨rfl,rfl,rfl⟩
 rw [hs2];obtain ⟨q1,q2,q3⟩:=q;have hB:(s2.outOf i).B i=b:=St.B_of (show s2.bx i=some b by rw [q1];exact hb)
 obtain ⟨_,_,l3,_,_,_,_,l8⟩:=leave_all ((s2.outOf i).die i) b.ho;refine ⟨?_,?_⟩
 ·rw [l8];exact q3
 ·rw [l3]
  show gvH s2.H ((s2.outOf i).B i).ho ((s2.outOf i).B i).me=_;rw [hB,q2]
theorem Mz.gone {Z:Int→Int} {s:St} {i:Int} {b:Bo} {g:Fu} (M:Mz Z s) (hb:s.bx i=some b) (hi:b.id=i) (hu:upQ b.q=true) (eg:s.fu.a b.fn=some g) (h1:1≤i) (h2:i≤s.last):Mz Z (s.gone i):=by
 obtain ⟨G,_⟩:=gone_gn hb hi hu eg;obtain ⟨f1,f2⟩:=gone_FH hb;obtain ⟨c,hc,hcq,_⟩:=G.it;refine ⟨fun f=>?_,fun f hf=>?_,fun h d z u hh=>?_⟩
 ·have hs:=run_set (f:=f) (n:=s.last) G.bx hb hc h1 h2
  rw [rv_off (b:=c) (by rw [hcq];rfl)] at hs
  rw [f1,G.last];have hm:=M.bz f
  split
  ·rename_i hr
   rw [end_busy]
   split
   ·rename_i e
    subst e;rw [rv_on hr] at hs;omega
   ·rename_i e
    rw [rv_other (fun q=>e q.symm)] at hs;omega
  ·rename_i hr
   rw [rv_off (by simpa using hr)] at hs
   omega
 ·have hf2:(s.fu.a f).isSome=true:=by
   cases q:(s.gone i).fu.a f with
   | none=>rw [q] at hf;cases hf
   | some g' =>
    obtain ⟨g0,h0,_⟩:=G.fu f g' q;rw [h0];rfl
  rw [f1]
  split
  ·rw [end_some];exact M.fx f hf2
  ·exact M.fx f hf2
 ·rw [f2] at hh
  obtain ⟨d0,u0,h0⟩:=gv_sz hh;exact M.hz h d0 z u0 h0
theorem Mz.kill {Z:Int→Int} {s:St} {i:Int} {b:Bo} {g:Fu} (M:Mz Z s) (hb:s.bx i=some b) (hi:b.id=i) (hu:upQ b.q=true) (eg:s.fu.a b.fn=some g) (h1:1≤i) (h2:i≤s.last):Mz Z (s.kill i) :=
 have M1:=M.gone hb hi hu eg h1 h2
 ⟨M1.bz,M1.fx,M1.hz⟩
theorem Mz.box {Z:Int→Int} {s s':St} {i:Int} {b b':Bo} (M:Mz Z s) (hb:s.bx i=some b) (h1:1≤i) (h2:i≤s.last) (hne:∀ j,j≠i→s'.bx j=s.bx j) (hb':s'.bx i=some b') (e1:b'.fn=b.fn) (e2:b'.q.runs=b.q.runs)
  (eF:s'.F=s.F) (eH:s'.H=s.H) (eL:s'.last=s.last) (hfu:∀ f,(s'.fu.a f).isSome=true→(s.fu.a f).isSome=true):Mz Z s':=by
 refine ⟨fun f=>?_,fun f hf=>?_,fun h d z u hh=>?_⟩
 ·have hs:=run_set (f:=f) (n:=s.last) hne hb hb' h1 h2
  rw [rv_eq e1 e2] at hs;rw [eF,eL,M.bz f];omega
 ·rw [eF];exact M.fx f (hfu f hf)
 ·rw [eH] at hh;exact M.hz h d z u hh
theorem unpin_fu {s:St} {i:Int} {b:Bo} {g:Fu} (hb:s.bx i=some b) (eg:s.fu.a b.fn=some g) (f:Int) (hf:((s.unpin i).fu.a f).isSome=true):(s.fu.a f).isSome=true:=by
 rw [show (s.unpin i).fu.a f=(s.fu.set (s.B i).fn { s.G (s.B i).fn with pi:=(s.G (s.B i).fn).pi.del i,lo:=(s.G (s.B i).fn).lo.set i () }).a f from rfl,St.B_of hb,Tb.a_set] at hf
 split at hf
 ·rename_i e;rw [e,eg];rfl
 ·exact hf
theorem one_F {s:St} {i t:Int} (ht:s.now<t):(s.one i t).F=s.F∧(s.one i t).fu=(s.unpin i).fu:=by
 unfold St.one;dsimp only
 split
 ·unfold St.idle
  rw [if_neg (show ¬ t≤(s.unpin i).now from by show ¬ t≤s.now;omega)]
  exact ⟨rfl,rfl⟩
 ·exact ⟨rfl,rfl⟩
theorem pin_fs {s:St} {i:Int} {b:Bo} {g:Fu} (hb:s.bx i=some b) (eg:s.fu.a b.fn=some g) (f:Int) (hf:((s.pin i).fu.a f).isSome=true):(s.fu.a f).isSome=true:=by
 by_cases e:f=b.fn
 ·rw [e,eg];rfl
 ·rw [pin_other hb e] at hf;exact hf
theorem Pth.mz {Z:Int→Int} {s0 s:St} (P:Pth s0 s) (h:Mz Z s0):Mz Z s:=by
 induction P with
 | refl=>exact h
 | one _ hI hb hu hp eg hk ht ih =>
  rename_i s K i t b g _;obtain ⟨h1,h2,_,_,h5,_,h7,_⟩:=one_all (t:=t) hb (hI.bx i b hb).1 ht;obtain ⟨h8,h9⟩:=one_F (i:=i) ht;have hbx:=hI.bx i b hb;refine ih.box hb hbx.2.1 hbx.2.2.1 h1 h2 rfl rfl h8 h5 h7 (fun f hf=>?_);rw [h9] at hf;exact unpin_fu hb eg f hf
 | pin _ hI hb hu hp hh eg hk ih =>
  rename_i s K i b g _;have hbx:=hI.bx i b hb;exact ih.box hb hbx.2.1 hbx.2.2.1 (fun j hj=>pin_bx hb hbx.1 hj) (pin_at hb hbx.1) rfl rfl rfl rfl rfl (fun f hf=>pin_fs hb eg f hf)
 | evict _ hI ep hv hu ih =>
  rename_i s K x i p v _;obtain ⟨_,_,b,hb,hq,_⟩:=hI.ca _ _ i v ep hv;obtain ⟨g,eg,_⟩:=hI.onF i b hb (warm_up hq);have hbx:=hI.bx i b hb;exact Mz.kill (s:=s.setP x (evictP p i v (s.B i).me)) ⟨ih.bz,ih.fx,ih.hz⟩ hb hbx.1 (warm_up hq) eg hbx.2.1 hbx.2.2.1
 | boot _ hI eg hu hm ih =>
  rename_i s K f' x g _;have hl:=hI.last;refine ⟨fun f=>?_,fun f hf=>?_,fun h d z u hh=>?_⟩
  ·have e1:(s.boot f' x).last.toNat=s.last.toNat+1:=by show (s.last+1).toNat=_;omega
   rw [e1];show busy s.F f=sumN _ s.last.toNat+runN _ f s.last.toNat
   have e2:runN (s.boot f' x).bx f s.last.toNat=0:=by
    have:=run_at (f:=f) (boot_bx (s:=s) (f:=f') (x:=x)) (by omega)
    rw [show (s.last+1-1).toNat=s.last.toNat by omega] at this
    rw [this];exact rv_off rfl
   rw [e2,ih.bz f];exact (sumN_ext (fun j hj=>run_ne (boot_other (by omega)))).symm
  ·by_cases e:f=f'
   ·exact ih.fx f (by rw [e,eg];rfl)
   ·rw [boot_fo e] at hf;exact ih.fx f hf
  ·have hh2:tkH s.H x (s.G f').mem h=some (d,z,u):=hh
   obtain ⟨d0,u0,h0⟩:=tk_sz hh2;exact ih.hz h d0 z u0 h0
 | ah _ ih=>exact ⟨ih.bz,ih.fx,ih.hz⟩
 | due _ hI hT ht ih =>
  rename_i s K i t _;obtain ⟨b,hb,hq,_⟩:=hI.T0 i t hT;obtain ⟨g,eg,_⟩:=hI.onF i b hb (warm_up hq);have hbx:=hI.bx i b hb;exact Mz.kill (s:=s.delT (0,i)) ⟨ih.bz,ih.fx,ih.hz⟩ hb hbx.1 (warm_up hq) eg hbx.2.1 hbx.2.2.1
 | dueB _ ih=>exact ⟨ih.bz,ih.fx,ih.hz⟩
theorem Mz.idle {Z:Int→Int} {s:St} {i t:Int} {b:Bo} {g:Fu} (M:Mz Z s) (hb:s.bx i=some b) (hi:b.id=i) (hu:upQ b.q=true) (eg:s.fu.a b.fn=some g) (h1:1≤i) (h2:i≤s.last):Mz Z (s.idle i t):=by
 unfold St.idle
 split
 ·exact M.kill hb hi hu eg h1 h2
 ·exact ⟨M.bz,M.fx,M.hz⟩
theorem Mz.leave {Z:Int→Int} {s:St} (M:Mz Z s) (x:Int):Mz Z (s.leave x):=by
 obtain ⟨l1,_,l3,l4,_,l6,_,l8⟩:=leave_all s x;exact ⟨by rw [l8,l1,l6];exact M.bz,by rw [l4,l8];exact M.fx,by rw [l3];exact M.hz⟩
theorem kill_F {s:St} {i:Int} {b:Bo} (hb:s.bx i=some b) (hr:b.q.runs=false):(s.kill i).F=s.F∧(s.kill i).A=s.A:=by
 refine ⟨?_,?_⟩
 ·show (s.gone i).F=_
  rw [(gone_FH hb).1,hr];rfl
 ·have hl:∀ s2:St,(s2.leave b.ho).A=s2.A:=fun s2=>by unfold St.leave;split <;> rfl
  show (s.gone i).A=_;unfold St.gone;rw [St.B_of hb];dsimp only;rw [hl]
  split <;> rfl
theorem one_A {s:St} {i t:Int} (ht:s.now<t):(s.one i t).A=s.A:=by
 unfold St.one;dsimp only
 split
 ·unfold St.idle
  rw [if_neg (show ¬ t≤(s.unpin i).now from by show ¬ t≤s.now;omega)]
  rfl
 ·rfl
theorem Pth.led {s0 s:St} (P:Pth s0 s):s.F=s0.F∧s.A=s0.A:=by
 induction P with
 | refl=>exact ⟨rfl,rfl⟩
 | one _ hI hb hu hp eg hk ht ih=>exact ⟨(one_F ht).1.trans ih.1,(one_A ht).trans ih.2⟩
 | pin _ hI hb hu hp hh eg hk ih=>exact ih
 | evict _ hI ep hv hu ih =>
  rename_i s K x i p v _;obtain ⟨_,_,b,hb,hq,_⟩:=hI.ca _ _ i v ep hv;obtain ⟨k1,k2⟩:=kill_F (s:=s.setP x (evictP p i v (s.B i).me)) hb (by rw [hq];rfl)
  exact ⟨k1.trans ih.1,k2.trans ih.2⟩
 | boot _ hI eg hu hm ih=>exact ih
 | ah _ ih=>exact ih
 | due _ hI hT ht ih =>
  rename_i s K i t _;obtain ⟨b,hb,hq,_⟩:=hI.T0 i t hT;obtain ⟨k1,k2⟩:=kill_F (s:=s.delT (0,i)) hb (by rw [hq];rfl)
  exact ⟨k1.trans ih.1,k2.trans ih.2⟩
 | dueB _ ih=>exact ih
theorem Mz.zero (Z:Int→Int):Mz Z St.zero:=by
 refine ⟨fun f=>rfl,(fun f hf=>nomatch hf),(fun h d z u hh=>nomatch hh)⟩
end Go.Proofs.YthdengocipfgiaaGreat.W.C
