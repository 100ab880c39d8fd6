import Derived.Test.YtgdpepoopicabaaGreatCcM
import Derived.Test.YtgdpepoopicabaaGreatCcA
import Derived.Test.YtgdpepoopicabaaGreatCcK
/- A part of what core's laws stand on. -/
set_option linter.unusedVariables false
set_option linter.unusedSimpArgs false
set_option maxRecDepth 100000
set_option maxHeartbeats 1600000
namespace Go.Proofs.YtgdpepoopicabaaGreat.W.C
open Go.RowKit Go.Proofs.YtgdpepoopicabaaGreat.W
theorem tick_step {s:St} (hn:s.now≠1099511627776) (ht:∀ a,(s.tk.a a).map tickB=s.tk.a a):s.tick=(({ s with now:=s.now+1 }:St).dues s.tn).keepAll 64:=by
 unfold St.tick
 rw [if_neg hn]
 have e:(⟨fun a=>(s.tk.a a).map tickB,s.tk.n⟩:Tb (Nat×Nat×Nat))=s.tk:=by
  rw [show (fun a=>(s.tk.a a).map tickB)=s.tk.a from funext ht]
 dsimp only
 rw [e]
theorem tick_quiet {s:St} (hn:s.now≠1099511627776) (ht:∀ a,(s.tk.a a).map tickB=s.tk.a a) (hd:∀ k t,s.T k=some t→s.now+1<t) (hk:∀ f,(s.fu.a f).isSome=true→(s.G f).keep=((s.G f).pi.n:Int)) :
  s.tick={ s with now:=s.now+1 }:=by
 rw [tick_step hn ht,dues_stop,keepAll_same]
 ·exact hk
 ·rintro k ⟨t,h1,h2⟩
  have:=hd k t h1.1
  have h3:t≤s.now+1:=h2
  omega
theorem tick_one {s:St} (hn:s.now≠1099511627776) (ht:∀ a,(s.tk.a a).map tickB=s.tk.a a) (h1:s.tn=1) {k:HT.K} {t:Int} (hd:s.T k=some t) (hd1:t≤s.now+1) (hd2:∀ k' t',s.T k'=some t'→k'=k∧t'=t) :
  s.tick=(({ s with now:=s.now+1 }:St).step k).keepAll 64:=by
 rw [tick_step hn ht,h1,dues_step (k:=k)]
 ·rfl
 ·refine ⟨t,⟨hd,fun k' t' q=>?_⟩,hd1⟩
  obtain ⟨rfl,rfl⟩:=hd2 k' t' q
  unfold HT.lt
  rw [decide_eq_false_iff_not]
  omega
theorem act_of {s s':St} {e:Ev} (h6:e.k≠6) (ht:s.turn e=(s',0)):s.act e=({ s' with out:=[] },(0,0,0,0),s'.out):=by
 unfold St.act St.answer
 rw [if_neg h6,ht]
 rfl
theorem turn0 {s:St}:s.turn ⟨0,0,0,0,0,0,0,0,0,0⟩=(s.tick,0):=by
 unfold St.turn
 rw [if_neg (by decide),if_neg (by decide),if_neg (by decide),if_neg (by decide),if_neg (by decide),if_neg (by decide)]
def es1:St:={ St.zero with A:=accA St.zero.A St.zero.F 0 5,tk:=St.zero.tk.set 0 (5,0,5) }
def eg2:Fu:={ Fu.new 0 1 with cost:=1,keep:=0 }
def es2:St:={ es1 with F:=funF es1.A es1.F 0 0 0,fu:=es1.fu.set 0 eg2 }
def es3:St:=({ es2 with H:=addH es2.H 0 9 }:St).setP 0 Pl.new
def es4:St:=(({ es3 with tk:=es3.tk.set 0 (5,0,4) }:St).boot 0 0).begin 0 1
def eW (n:Int):St:={ es4 with now:=n,out:=[] }
theorem ea1:St.zero.doE ⟨1,0,5,5,0,0,0,0,0,0⟩=(es1,(0,0,0,0),[]):=by
 rw [St.doE_right (by unfold right;simp [nums,mk,nth]),act_of (s':=es1) (by decide)]
 ·rfl
 ·rw [turn1 rfl]
  unfold St.account
  rw [if_neg (by decide),if_neg (by decide)]
  rfl
theorem ea2:es1.doE ⟨2,0,0,0,0,0,1,1,0,0⟩=(es2,(0,0,0,0),[]):=by
 rw [St.doE_right (by unfold right;simp [nums,mk,nth]),act_of (s':=es2) (by decide)]
 ·rfl
 ·have h0:funE es1 ⟨2,0,0,0,0,0,1,1,0,0⟩=0:=by
   unfold funE
   rw [if_neg (by decide),if_neg (by decide),if_neg (by decide),if_neg (by decide)]
   decide
  rw [turn2 rfl]
  unfold St.func
  rw [if_pos h0,keep_as rfl]
  rfl
theorem keep0 {s:St} (h0:∀ f,f≠0→s.fu.a f=none) (h:(s.G 0).keep=((s.G 0).pi.n:Int)):∀ f,(s.fu.a f).isSome=true→(s.G f).keep=((s.G f).pi.n:Int):=by
 intro f q
 by_cases e:f=0
 ·subst e;exact h
 ·rw [h0 f e] at q;cases q
theorem es3_fu:∀ f,f≠0→es3.fu.a f=none:=fun f e=>by
 show updZ _ 0 _ f=none
 unfold updZ;rw [if_neg e];rfl
theorem ea3:es2.doE ⟨3,0,0,9,0,0,0,0,0,0⟩=(es3,(0,0,0,0),[]):=by
 rw [St.doE_right (by unfold right;simp [nums,mk,nth]),act_of (s':=es3) (by decide)]
 ·rfl
 ·rw [turn3 rfl]
  show es2.addHost 0 9=_
  unfold St.addHost
  have h0:addC es2.H 0 9=0:=by decide
  have hk:es3.keepAll 64=es3:=keepAll_same (keep0 es3_fu rfl) 64
  rw [if_pos h0]
  show (es3.keepAll 64,(0:Int))=_
  rw [hk]
theorem ea4:es3.doE ⟨6,0,0,0,0,0,0,0,0,0⟩=(eW 0,(3,1,0,0),[(true,1,0,0)]):=by
 rw [St.doE_right (s:=es3) (e:=⟨6,0,0,0,0,0,0,0,0,0⟩) hr4]
 have hr:es3.room 1=(es3,some 0):=by
  unfold St.room
  rw [if_pos (by decide)]
  rfl
 have hc:es3.cold 0=(es4,(3,1,0,0)):=by
  unfold St.cold
  dsimp only
  rw [if_neg (by decide)]
  have hr':es3.room (es3.G 0).mem=(es3,some 0):=hr
  rw [hr']
  rfl
 have h:es3.call 0=(es4,(3,1,0,0)):=by
  unfold St.call
  rw [if_pos (by decide),if_neg (by decide),if_neg (by decide),fresh_none (fun j=>⟨rfl,rfl⟩),hc]
 have h2:es3.answer hx4=(es4,(3,1,0,0)):=by
  unfold St.answer
  rw [if_pos (by decide)]
  exact h
 show es3.act hx4=_
 unfold St.act
 rw [h2]
 rfl
theorem updZ_up {α:Type} (F:Int→Option α) (i:Int) (x y:Option α):updZ (updZ F i x) i y=updZ F i y:=by
 funext j;unfold updZ;split <;> rfl
theorem tk_fix {s:St} (h:s.tk.a=updZ (fun _=>none) 0 (some (5,0,4))):∀ a,(s.tk.a a).map tickB=s.tk.a a:=by
 intro a
 rw [h];unfold updZ
 split
 ·rfl
 ·rfl
theorem es4_tk:es4.tk.a=updZ (fun _=>none) 0 (some (5,0,4)):=by
 show updZ (updZ (fun _=>none) 0 _) 0 _=_
 rw [updZ_up]
theorem es4_fu:∀ f,f≠0→es4.fu.a f=none:=fun f e=>by
 show updZ (updZ (updZ (fun _=>none) 0 _) 0 _) 0 _ f=none
 unfold updZ;rw [if_neg e,if_neg e,if_neg e]
theorem es4_T:∀ k,es4.T k=none:=fun k=>by
 show HT.updZ (HT.updZ (fun _=>none) (1,0) none) (0,1) none k=none
 unfold HT.updZ;split
 ·rfl
 ·split <;> rfl
theorem right0:right ⟨0,0,0,0,0,0,0,0,0,0⟩:=by unfold right;simp [nums,mk,nth]
theorem eaW {n:Int} (h:n<1000):(eW n).doE ⟨0,0,0,0,0,0,0,0,0,0⟩=(eW (n+1),(0,0,0,0),[]):=by
 rw [St.doE_right right0,act_of (s':=eW (n+1)) (by decide)]
 ·rfl
 ·rw [turn0,tick_quiet (s:=eW n) (by show n≠_;omega) (tk_fix es4_tk) (fun k t q=>by rw [show (eW n).T k=none from es4_T k] at q;cases q) (keep0 es4_fu rfl)]
  rfl
def eB (n:Int):St:={ (eW n).setB ⟨1,0,0,1,.busy,false,n⟩ with ah:=(eW n).ah.del 1 }
theorem eaB (n:Int):(eW n).doE ⟨7,1,0,0,0,0,0,0,0,0⟩=(eB n,(0,0,0,0),[]):=by
 rw [St.doE_right (by unfold right;simp [nums,mk,nth]),act_of (s':=eB n) (by decide)]
 ·rfl
 ·unfold St.turn
  rw [if_neg (by decide),if_neg (by decide),if_neg (by decide),if_neg (by decide),if_neg (by decide),if_pos (by decide)]
  unfold St.tend
  rw [if_pos (by rfl),if_pos (by rfl)]
  show (eW n).booted 1=_
  unfold St.booted
  rw [if_pos (by rfl)]
  dsimp only
  rw [if_neg (by rintro ⟨q,_⟩;cases q)]
  rfl
def eS (n:Int):St:=((eB n).setB ⟨1,0,0,1,.warm,false,n⟩).endC 0
def eD (n m:Int):St:={ (((eS n).setP 0 (putP ((eS n).P 0) ⟨1,0,0,1,.warm,false,n⟩ ((eS n).G 0))).setT (0,1) (n+10)) with now:=m }
theorem win_low:winN (fun _=>0) 0 []=(0,0,10):=by
 unfold winN
 rw [if_pos (by unfold tot;rw [sumTo_zero];omega)]
theorem eaD (n:Int):(eB n).doE ⟨9,1,0,0,0,0,0,0,0,0⟩=(eD n n,(0,0,0,0),[]):=by
 rw [St.doE_right (by unfold right;simp [nums,mk,nth]),act_of (s':=eD n n) (by decide)]
 ·rfl
 ·unfold St.turn
  rw [if_neg (by decide),if_neg (by decide),if_neg (by decide),if_neg (by decide),if_neg (by decide),if_pos (by decide)]
  unfold St.tend
  rw [if_pos (by rfl),if_neg (by decide),if_pos (by rfl)]
  show (eB n).done 1=_
  unfold St.done
  rw [if_pos (by rfl)]
  dsimp only
  rw [if_neg (by intro q;exact absurd (show true=false from q) (by decide)),if_neg (by intro q;exact absurd (show false=true from q) (by decide))]
  show ((eS n).rest 1,(0:Int))=_
  unfold St.rest
  have hw:((eS n).G 0).win=(0,0,10):=win_low
  have hf:((eS n).B 1).fn=0:=rfl
  dsimp only
  rw [hf,hw]
  dsimp only
  rw [if_pos (by omega)]
  unfold St.idle
  rw [if_neg (by show ¬ (n+10≤n);omega)]
  rfl
theorem eD_fu (n m:Int):∀ f,f≠0→(eD n m).fu.a f=none:=fun f e=>by
 show updZ es4.fu.a 0 _ f=none
 unfold updZ;rw [if_neg e];exact es4_fu f e
theorem eD_T (n m:Int) (k:HT.K):(eD n m).T k=if k=(0,1) then some (n+10) else none:=by
 show HT.updZ es4.T (0,1) _ k=_
 unfold HT.updZ
 split
 ·rfl
 ·exact es4_T k
theorem eaI {n m:Int} (h:m<1000) (h2:m+1<n+10):(eD n m).doE ⟨0,0,0,0,0,0,0,0,0,0⟩=(eD n (m+1),(0,0,0,0),[]):=by
 rw [St.doE_right right0,act_of (s':=eD n (m+1)) (by decide)]
 ·rfl
 ·rw [turn0,tick_quiet (s:=eD n m) (by show m≠_;omega) (tk_fix es4_tk) (fun k t q=>by
   rw [eD_T] at q
   split at q
   ·cases q;exact h2
   ·cases q) (keep0 (eD_fu n m) rfl)]
  rfl
noncomputable def eK (n m:Int):St:={ (((eD n (n+10)).step (0,1))) with now:=m,out:=[] }
theorem eK_fu (n m:Int):∀ f,f≠0→(eK n m).fu.a f=none:=fun f e=>by
 show updZ (eD n (n+10)).fu.a 0 _ f=none
 unfold updZ;rw [if_neg e];exact eD_fu n _ f e
theorem eK_T (n m:Int) (k:HT.K):(eK n m).T k=none:=by
 show HT.updZ (HT.updZ (eD n (n+10)).T (0,1) none) (0,1) none k=_
 unfold HT.updZ
 split
 ·rfl
 ·rw [eD_T];split
  ·contradiction
  ·rfl
theorem eaE {n m:Int} (h:m<1000) (h2:m+1=n+10):(eD n m).doE ⟨0,0,0,0,0,0,0,0,0,0⟩=(eK n (n+10),(0,0,0,0),[(false,1,0,0)]):=by
 have hs:(eD n m).tick=(eD n (n+10)).step (0,1):=by
  rw [tick_one (s:=eD n m) (k:=(0,1)) (t:=n+10) (by show m≠_;omega) (tk_fix es4_tk) rfl (by rw [eD_T,if_pos rfl]) (by show n+10≤m+1;omega) (fun k' t' q=>by
   rw [eD_T] at q
   split at q
   ·rename_i e;cases q;exact ⟨e,rfl⟩
   ·cases q)]
  show ((eD n (m+1)).step (0,1)).keepAll 64=_
  rw [h2]
  exact keepAll_same (s:=(eD n (n+10)).step (0,1)) (keep0 (eK_fu n (n+10)) rfl) 64
 rw [St.doE_right right0,act_of (s':=(eD n (n+10)).step (0,1)) (by decide)]
 ·rfl
 ·rw [turn0,hs]
theorem eaF {n m:Int} (h:m<1000):(eK n m).doE ⟨0,0,0,0,0,0,0,0,0,0⟩=(eK n (m+1),(0,0,0,0),[]):=by
 rw [St.doE_right right0,act_of (s':=eK n (m+1)) (by decide)]
 ·rfl
 ·rw [turn0,tick_quiet (s:=eK n m) (by show m≠_;omega) (tk_fix es4_tk) (fun k t q=>by rw [eK_T] at q;cases q) (keep0 (eK_fu n m) rfl)]
  rfl
noncomputable def eU (n:Int) (j:Int):St:=if j<10 then eD n (n+j) else eK n (n+j)
def eL (j:Int):List Cmd:=if j=9 then [(false,1,0,0)] else []
theorem eaU {n j:Int} (h:n<100) (h2:j<100):(eU n j).doE ⟨0,0,0,0,0,0,0,0,0,0⟩=(eU n (j+1),(0,0,0,0),eL j):=by
 unfold eU eL
 by_cases a:j+1<10
 ·rw [if_pos (by omega),if_pos a,if_neg (by omega),eaI (by omega) (by omega),Int.add_assoc]
 ·rw [if_neg a]
  by_cases b:j=9
  ·rw [if_pos (by omega),if_pos b,eaE (by omega) (by omega),show n+(j+1)=n+10 by omega]
  ·rw [if_neg (by omega),if_neg b,eaF (by omega),Int.add_assoc]
end Go.Proofs.YtgdpepoopicabaaGreat.W.C
namespace Go.Proofs.YtgdpepoopicabaaGreat.W.C
open Go.RowKit Go.Proofs.YtgdpepoopicabaaGreat.W
attribute [local go_sem] Oper.semAt_some
theorem c_EndsC {w:World} {own:Nat→Option Tag} {y:Lay} {s:St} (h:Cor w own y s) (hn:s.tn<1073741824) (i:Int) (hi:HT.kw (0,i)):Calls Tryz.prog 9 #[ptr y.c,.int .i64 i] w fun e w'=>e=.returned (.tuple #[.int .i64 ((s.T (0,i)).getD 0),.bool (s.T (0,i)).isSome])∧To w own y s w':=by
 have dr:=c_readyC h
 have dt:=k_tat h (0,i) hi hn
 have ht:w.cell? ⟨y.c,9,none⟩=some (ptr y.t):=by
  obtain ⟨v,G,h2,_⟩:=h.coreAll
  exact cellL h2 9 _ rfl
 clear h
 go_enter Tryz.func9,Tryz.ntmps9
 go_wp2_with fail
 with_reducible refine dr.mono ?_
 rintro e w1 ⟨rfl,rfl⟩
 go_wp2_with fail
 with_reducible refine dt.mono ?_
 rintro e w2 ⟨rfl,h2⟩
 go_wp2_with fail
 go_ret2
 exact ⟨rfl,h2⟩
theorem c_Ends {w:World} {own:Nat→Option Tag} {c:Nat} {s:St} (h:Wk w own c s) {K:Nat} (hI:Inv K 0 s) (hl:0<s.last) (i:Int) (hi:HT.kw (0,i)):Calls Tryz.prog 9 #[ptr c,.int .i64 i] w fun e w'=>e=.returned (.tuple #[.int .i64 ((s.T (0,i)).getD 0),.bool (s.T (0,i)).isSome])∧∃ own',Wk w' own' c s∧Nx w own w' own':=by
 obtain ⟨an,⟨y,rfl,han,h1⟩ | ⟨_,rfl,_,_⟩,ha⟩:=h
 ·refine (c_EndsC h1 (by have:=(hI.bd (by omega)).tn;omega) i hi).mono ?_
  rintro e w' ⟨rfl,own',k1,k2⟩
  exact ⟨rfl,own',⟨an,Or.inl ⟨y,rfl,han,k1⟩,ha⟩,k2⟩
 ·exact absurd hl (by show ¬ (0:Int)<0;omega)
end Go.Proofs.YtgdpepoopicabaaGreat.W.C
