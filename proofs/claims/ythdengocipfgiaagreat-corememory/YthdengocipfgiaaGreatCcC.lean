import Derived.Test.YthdengocipfgiaaGreatCcA
/- A part of what core's laws stand on. -/
set_option linter.unusedVariables false
set_option linter.unusedSimpArgs false
set_option maxRecDepth 100000
set_option maxHeartbeats 1600000
namespace Go.Proofs.YthdengocipfgiaaGreat.W.C
open Go.RowKit Go.Maps Go.ChangeMaps Go.MapKept Go.Proofs.YthdengocipfgiaaGreat.W
attribute [local go_sem] Oper.semAt_some
abbrev Ty (w:World) (own:Nat→Option Tag) (y:Lay) (s':St) (w':World):Prop:=∃ y',y'.c=y.c∧y'.an=y.an∧To w own y' s' w'
theorem Ty.of {w w':World} {own:Nat→Option Tag} {y:Lay} {s':St} (h:To w own y s' w'):Ty w own y s' w':=⟨y,rfl,rfl,h⟩
def ownN (own:Nat→Option Tag) (w0:World) (τ:Nat→Option Tag):Nat→Option Tag:=fun j=>if j<w0.heap.size then own j else τ j
theorem ownN_old {own:Nat→Option Tag} {w0:World} {τ:Nat→Option Tag} {j:Nat} (h:j<w0.heap.size):ownN own w0 τ j=own j:=if_pos h
theorem ownN_new {own:Nat→Option Tag} {w0:World} {τ:Nat→Option Tag} {j:Nat} (h:w0.heap.size≤j):ownN own w0 τ j=τ j:=if_neg (by omega)
theorem Cor.turnN {w0 w':World} {own:Nat→Option Tag} {y y':Lay} {s s':St} (h:Cor w0 own y s) (t0:Tag) (ho:Only w0 w' (fun j=>own j=some t0)) (τ:Nat→Option Tag) (hτ:∀ j t,τ j=some t→j<w'.heap.size)
  (hn:∀ t,Ob w' (ownN own w0 τ) y' s' t∨(t≠t0∧Ob w0 own y' s' t∧∀ j,w0.heap.size≤j→τ j≠some t)):Cor w' (ownN own w0 τ) y' s'∧Nx w0 own w' (ownN own w0 τ):=by
 have hsz:=ho.size
 have hinv:∀ j t,ownN own w0 τ j=some t→(j<w0.heap.size∧own j=some t)∨(w0.heap.size≤j∧τ j=some t):=fun j t q=>by
  unfold ownN at q
  split at q
  ·exact Or.inl ⟨by assumption,q⟩
  ·exact Or.inr ⟨by omega,q⟩
 refine ⟨⟨fun j t q=>?_,fun t=>?_⟩,ho.mono (fun j q=>by rw [q];simp),fun j q=>?_⟩
 ·rcases hinv j t q with q | q
  ·omega
  ·exact hτ j t q.2
 ·rcases hn t with e | ⟨e,hob,hno⟩
  ·exact e
  ·refine hob.kept ho (fun j q q'=>e ?_) (fun j q=>by rw [ownN_old (h.lt _ _ q)];exact q) (fun j q=>?_)
   ·rw [q] at q';cases q';rfl
   ·rcases hinv j t q with q | q
    ·omega
    ·exact hτ j t q.2
 ·cases hq:ownN own w0 τ j with
  | none=>exact absurd hq q
  | some u =>
   rcases hinv j u hq with q | q
   ·left;rw [q.2];simp
   ·right;exact q.1
theorem mp_run_set {P:Program} {w:World} {b:Nat} {M:Int→Option Value} {c:Nat} {k e t:TypeId} (h:Mp P k w b M c) (hk:P.underlying k=some (.int .i64)) (ht:P.underlying t=some (.map k e)) (hc0:c<maxLen) {n:Int} (hw:(KL n).wf=true) (val:Value) :
  ∃ w',(Instr.mapUpdate t (.map (some b)) (.int .i64 n) val).run P w=.ok () w'∧Mp P k w' b (updZ M n (some val)) (if (M n).isSome then c else c+1)∧w.grownBy w' (some b):=by
 obtain ⟨D,h1,h2,h3⟩:=h;obtain ⟨w',hrun,h4,h5⟩:=h1.store (int_keyed hk) ht hc0 (key:=.int .i64 n) (val:=val) (kl:=KL n) (d:=.held val) (ps:=[]) (keyOf_int_mk hk hw) rfl;have hs:=Maps.size_put (k:=KL n) (h1.tidy (int_keyed hk)) (.held val);rw [(h3 n hw).1] at hs;have hh:Maps.size (D.put (KL n) (.held val))=(if (M n).isSome then c else c+1):=by rw [hs,h2]
 have hg:w.grownBy w' (some b):=by
  obtain ⟨es,clock,es',clock',hb,rfl⟩:=h5
  exact ⟨rfl,rfl,rfl,by simp [setBlock],fun j hj hne=>by
   show (w.heap.setIfInBounds b _)[j]?=_;rw [Array.getElem?_setIfInBounds_ne (by simpa using fun q=>hne (by rw [q]))]⟩
 refine ⟨w',hrun,⟨_,by rw [←hh];exact tight h4,hh,?_⟩,hg⟩
 intro x hx;have hkl:WideAt.IsKeyLit (KL n):=trivial
 by_cases e:x=n
 ·subst e;rw [updZ_same];exact ⟨Maps.has_put_same h1.isMap hkl _,fun v h z=>by cases h;exact Maps.atKey_put_same h1.isMap hkl _ _⟩
 ·have ne:KL x≠KL n:=by intro q;apply e;injection q
  rw [updZ_ne _ _ e,Maps.has_put_other ne];exact ⟨(h3 x hx).1,fun v hv z=>by rw [Maps.atKey_put_other ne];exact (h3 x hx).2 v hv z⟩
theorem MpT.run_set {α:Type} {w:World} {b:Nat} {m:Tb α} {e:Int→α→Value} (h:MpT w b m e) {et t:TypeId} (ht:Tryz.prog.underlying t=some (.map 3 et)) (hc0:m.n<maxLen) {n:Int} (hw:(KL n).wf=true) (val:Value) :
  ∃ w',(Instr.mapUpdate t (.map (some b)) (.int .i64 n) val).run Tryz.prog w=.ok () w'∧Mp Tryz.prog 3 w' b (updZ (fun x=>(m.a x).map (e x)) n (some val)) (if ((fun x=>(m.a x).map (e x)) n).isSome then m.n else m.n+1)∧w.grownBy w' (some b) :=
 mp_run_set (show Mp Tryz.prog 3 w b (fun x=>(m.a x).map (e x)) m.n from h) Tryz.underlying3 ht hc0 hw val
theorem MpT.newAt {α:Type} {w':World} {b:Nat} {m:Tb α} {e e':Int→α→Value} {i:Int} {v:α} {val:Value} (h:Mp Tryz.prog 3 w' b (updZ (fun x=>(m.a x).map (e x)) i (some val)) (if ((fun x=>(m.a x).map (e x)) i).isSome then m.n else m.n+1)) (he:∀ j u,j≠i→e' j u=e j u) (hv:e' i v=val):MpT w' b (m.set i v) e':=by
 have e1:(fun x=>((m.set i v).a x).map (e' x))=updZ (fun x=>(m.a x).map (e x)) i (some val):=by
  funext j
  rw [Tb.a_set,updZ_at]
  by_cases q:j=i
  ·rw [if_pos q,if_pos q,q,←hv];rfl
  ·rw [if_neg q,if_neg q]
   cases m.a j with
   | none=>rfl
   | some u=>show some (e' j u)=some (e j u);rw [he j u q]
 have e2:(m.set i v).n=if ((fun x=>(m.a x).map (e x)) i).isSome then m.n else m.n+1:=by
  dsimp only;rw [isSome_map];rfl
 unfold MpT;rw [e1,e2];exact h
theorem three_new (w:World) (A B C:Obj) {w3:World} (h:((w.alloc A).alloc B).alloc C=w3):w3.heap[w.heap.size]?=some A∧w3.heap[w.heap.size+1]?=some B∧w3.heap[w.heap.size+2]?=some C∧Below w.heap.size w w3:=by
 subst h;obtain ⟨a,b,c,d,_⟩:=three w A B C;exact ⟨a,b,c,d⟩
def Lay.withP (y:Lay) (x:Int) (pb pm pc:Nat):Lay:={ y with pb:=fun j=>if j=x then pb else y.pb j,pm:=fun j=>if j=x then pm else y.pm j,pc:=fun j=>if j=x then pc else y.pc j }
def NewP (w:World) (b m c:Nat) (w':World):Prop:=w.heap.size≤b∧w.heap.size≤m∧w.heap.size≤c∧b≠m∧b≠c∧m≠c∧w'.heap[b]?=some (.cells #[.map (some m),ptr c,.int .i64 0] 167 (0,0))∧Mp Tryz.prog 3 w' m (fun _=>none) 0∧HR.Cq (fun j=>j=c) w' c 0 0 (fun _=>none)∧Below w.heap.size w w'
theorem c_newPlace (w:World):Calls Tryz.prog 81 #[] w fun e w'=>∃ b m c,e=.returned (ptr b)∧NewP w b m c w':=by
 go_enter Tryz.func81,Tryz.ntmps81
 have hmm:=@run_makeMap Tryz.prog;go_wp2_with fail
 refine (HR.w_new _).mono ?_;rintro e w2 ⟨rfl,hc,hb⟩;obtain ⟨m,hm⟩:∃ m,w.heap.size=m:=⟨_,rfl⟩;have m1:Mp Tryz.prog 3 (w.alloc (.map #[] 0)) m (fun _=>none) 0:=by rw [←hm];exact Mp.made _ _ _
 have b1:Below w.heap.size w (w.alloc (.map #[] 0)):=(Below.refl _ _).alloc (Nat.le_refl _) _;have m2:=m1.kept (Only.of_below (S:=fun _=>False) hb) (fun q=>q);obtain ⟨c,hc2⟩:∃ c,(w.alloc (.map #[] 0)).heap.size=c:=⟨_,rfl⟩;have hcm:c=m+1:=by rw [←hc2,World.size_alloc,hm]
 rw [hc2] at hc hb;rw [hc2,hm];have hb2:Below w.heap.size w w2:=b1.trans (by rw [←hc2] at hb;exact hb.mono b1.size)
 have hcl:=hc.lt;have HCM:=Lib.hid hcm;have HM:=Lib.hid hm;clear hcm hm hc2;go_wp2_with fail
 go_ret
 have hcm:=HCM.out;have hm:=HM.out;have k3:=(Only.refl w2 (fun _=>False)).alloc (.cells #[.map (some m),ptr c,.int .i64 0] 167);refine ⟨w2.heap.size,m,c,rfl,by have:=hb2.size;omega,by omega,by omega,by omega,by omega,by omega,heap_alloc_new w2 _,m2.kept k3 (fun q=>q),hc.kept k3 (fun _ _ q=>q),hb2.alloc (by have:=hb2.size;omega) _⟩
theorem Cor.newP {w0 w w':World} {own:Nat→Option Tag} {y:Lay} {s:St} {x:Int} {b m c:Nat} (h:Cor w0 own y s) (hN:NewP w0 b m c w)
  (hm:MpT w' y.mp (s.pl.set x Pl.new) (fun h _=>ptr ((y.withP x b m c).pb h))) (hg:w.grownBy w' (some y.mp)) :
  ∃ own',Cor w' own' (y.withP x b m c) (s.setP x Pl.new)∧Nx w0 own w' own':=by
 obtain ⟨hb0,hm0,hc0,h1,h2,h3,hb,hmm,hcq,hbel⟩:=hN;have hmp:=(h.ob .mp).1;have hmpl:=h.lt _ _ hmp;have ho:Only w0 w' (fun j=>own j=some .mp):=((Only.of_below (S:=fun _=>False) hbel).mono (fun _ q=>q.elim)).trans (Only.grown (S:=fun j=>j=y.mp) hg (Or.inl rfl)) (fun j q=>Or.inl (by rw [q];exact hmp))
 have hgo:Only w w' (fun j=>j=y.mp):=Only.grown hg (Or.inl rfl);have hbl:=lt_of_row hb;have hml:=hmm.lt;have hcl:=hcq.lt;have hsz:=hgo.size;refine ⟨_,h.turnN .mp ho (fun j=>if j=b then some (.pb x) else if j=m then some (.pm x) else if j=c then some (.pc x) else none) (fun j t q=>?_) (fun t=>?_)⟩
 ·split at q
  ·omega
  ·split at q
   ·omega
   ·split at q
    ·omega
    ·cases q
 have pk:∀ z p,(s.setP x Pl.new).pl.a z=some p→z≠x→s.pl.a z=some p:=fun z p hp hz=>by
  rw [show (s.setP x Pl.new).pl.a z=s.pl.a z from Tb.set_ne _ _ hz] at hp;exact hp
 have nt:∀ t,(∀ z,t≠.pb z)→(∀ z,t≠.pm z)→(∀ z,t≠.pc z)→∀ j,w0.heap.size≤j→(if j=b then some (Tag.pb x) else if j=m then some (.pm x) else if j=c then some (.pc x) else none)≠some t:=fun t a1 a2 a3 j _ q=>by
  split at q
  ·cases q;exact a1 x rfl
  ·split at q
   ·cases q;exact a2 x rfl
   ·split at q
    ·cases q;exact a3 x rfl
    ·cases q
 cases t with
 | mp=>exact Or.inl ⟨(ownN_old hmpl).trans hmp,hm⟩
 | pb z =>
  by_cases e:z=x
  ·subst e
   refine Or.inl (fun p hp=>?_);rw [setP_at] at hp;cases hp;have e1:(y.withP z b m c).pb z=b:=if_pos rfl;rw [e1];refine ⟨by rw [ownN_new hb0];exact if_pos rfl,?_⟩
   have:=hgo.blk (fun q=>by omega) hb
   rw [this];show _=some (Obj.cells (prow (y.withP z b m c) z Pl.new).toArray _ _);unfold prow;rw [show (y.withP z b m c).pm z=m from if_pos rfl,show (y.withP z b m c).pc z=c from if_pos rfl]
   rfl
  ·refine Or.inr ⟨(fun q=>nomatch q),fun p hp=>?_,fun j hj q=>?_⟩
   ·have:=(h.ob (.pb z)) p (pk z p hp e)
    rw [show (y.withP x b m c).pb z=y.pb z from if_neg e]
    refine ⟨this.1,?_⟩;rw [this.2];unfold prow;rw [show (y.withP x b m c).pm z=y.pm z from if_neg e,show (y.withP x b m c).pc z=y.pc z from if_neg e]
   ·split at q
    ·cases q;exact e rfl
    ·split at q
     ·cases q
     ·split at q <;> cases q
 | pm z =>
  by_cases e:z=x
  ·subst e
   refine Or.inl (fun p hp=>?_);rw [setP_at] at hp;cases hp;rw [show (y.withP z b m c).pm z=m from if_pos rfl]
   exact ⟨by rw [ownN_new hm0];rw [if_neg (fun q=>h1 q.symm),if_pos rfl],hmm.kept hgo (fun q=>by omega)⟩
  ·refine Or.inr ⟨(fun q=>nomatch q),fun p hp=>?_,fun j hj q=>?_⟩
   ·have:=(h.ob (.pm z)) p (pk z p hp e)
    rw [show (y.withP x b m c).pm z=y.pm z from if_neg e]
    exact this
   ·split at q
    ·cases q
    ·split at q
     ·cases q;exact e rfl
     ·split at q <;> cases q
 | pc z =>
  by_cases e:z=x
  ·subst e
   refine Or.inl (fun p hp=>?_);rw [setP_at] at hp;cases hp;rw [show (y.withP z b m c).pc z=c from if_pos rfl]
   refine (hcq.kept hgo (fun j q q'=>by omega)).mono (fun j q=>?_)
   rw [q,ownN_new hc0,if_neg (fun q=>h2 q.symm),if_neg (fun q=>h3 q.symm),if_pos rfl]
  ·refine Or.inr ⟨(fun q=>nomatch q),fun p hp=>?_,fun j hj q=>?_⟩
   ·have:=(h.ob (.pc z)) p (pk z p hp e)
    rw [show (y.withP x b m c).pc z=y.pc z from if_neg e]
    exact this
   ·split at q
    ·cases q
    ·split at q
     ·cases q
     ·split at q
      ·cases q;exact e rfl
      ·cases q
 | core=>exact Or.inr ⟨(fun q=>nomatch q),h.ob .core,nt _ (fun _ q=>nomatch q) (fun _ q=>nomatch q) (fun _ q=>nomatch q)⟩
 | led=>exact Or.inr ⟨(fun q=>nomatch q),h.ob .led,nt _ (fun _ q=>nomatch q) (fun _ q=>nomatch q) (fun _ q=>nomatch q)⟩
 | hos=>exact Or.inr ⟨(fun q=>nomatch q),h.ob .hos,nt _ (fun _ q=>nomatch q) (fun _ q=>nomatch q) (fun _ q=>nomatch q)⟩
 | tim=>exact Or.inr ⟨(fun q=>nomatch q),h.ob .tim,nt _ (fun _ q=>nomatch q) (fun _ q=>nomatch q) (fun _ q=>nomatch q)⟩
 | mb=>exact Or.inr ⟨(fun q=>nomatch q),h.ob .mb,nt _ (fun _ q=>nomatch q) (fun _ q=>nomatch q) (fun _ q=>nomatch q)⟩
 | mf=>exact Or.inr ⟨(fun q=>nomatch q),h.ob .mf,nt _ (fun _ q=>nomatch q) (fun _ q=>nomatch q) (fun _ q=>nomatch q)⟩
 | mx=>exact Or.inr ⟨(fun q=>nomatch q),h.ob .mx,nt _ (fun _ q=>nomatch q) (fun _ q=>nomatch q) (fun _ q=>nomatch q)⟩
 | ma=>exact Or.inr ⟨(fun q=>nomatch q),h.ob .ma,nt _ (fun _ q=>nomatch q) (fun _ q=>nomatch q) (fun _ q=>nomatch q)⟩
 | bk a=>exact Or.inr ⟨(fun q=>nomatch q),h.ob (.bk a),nt _ (fun _ q=>nomatch q) (fun _ q=>nomatch q) (fun _ q=>nomatch q)⟩
 | fb a=>exact Or.inr ⟨(fun q=>nomatch q),h.ob (.fb a),nt _ (fun _ q=>nomatch q) (fun _ q=>nomatch q) (fun _ q=>nomatch q)⟩
 | fh a=>exact Or.inr ⟨(fun q=>nomatch q),h.ob (.fh a),nt _ (fun _ q=>nomatch q) (fun _ q=>nomatch q) (fun _ q=>nomatch q)⟩
 | fr a=>exact Or.inr ⟨(fun q=>nomatch q),h.ob (.fr a),nt _ (fun _ q=>nomatch q) (fun _ q=>nomatch q) (fun _ q=>nomatch q)⟩
 | fp a=>exact Or.inr ⟨(fun q=>nomatch q),h.ob (.fp a),nt _ (fun _ q=>nomatch q) (fun _ q=>nomatch q) (fun _ q=>nomatch q)⟩
 | fl a=>exact Or.inr ⟨(fun q=>nomatch q),h.ob (.fl a),nt _ (fun _ q=>nomatch q) (fun _ q=>nomatch q) (fun _ q=>nomatch q)⟩
 | bx a=>exact Or.inr ⟨(fun q=>nomatch q),h.ob (.bx a),nt _ (fun _ q=>nomatch q) (fun _ q=>nomatch q) (fun _ q=>nomatch q)⟩
end Go.Proofs.YthdengocipfgiaaGreat.W.C
namespace Go.Proofs.YthdengocipfgiaaGreat.W.C
open Go.RowKit Go.Proofs.YthdengocipfgiaaGreat.W
attribute [local go_sem] Oper.semAt_some
theorem addHost_no {s:St} {x n:Int} (h:addC s.H x n≠0):s.addHost x n=(s,addC s.H x n):=by unfold St.addHost;rw [if_neg h]
theorem addHost_yes {s:St} {x n:Int} (h:addC s.H x n=0):s.addHost x n=((({ s with H:=addH s.H x n }:St).setP x Pl.new).keepAll 64,0):=by unfold St.addHost;rw [if_pos h]
theorem addC_is {H:Int→Option Ht} {x n:Int} (h:addC H x n=0):0≤x∧x<32∧1≤n∧n≤4096∧H x=none:=by
 unfold addC at h
 split at h
 ·cases h
 ·rename_i hq
  split at h
  ·cases h
  ·rename_i hn
   have hi:isH x=true:=by
    cases q:isH x with
    | true=>rfl
    | false=>exact absurd (Or.inl q) hq
   have hr:=isH_iff.1 hi;refine ⟨hr.1,hr.2,by omega,by omega,?_⟩
   cases q:H x with
   | none=>rfl
   | some t=>rw [q] at hn;exact absurd rfl hn
theorem Inv.addHost1 {K e:Nat} {s:St} (h:Inv K e s) {x n:Int} (hx:addC s.H x n=0):Inv K e (({ s with H:=addH s.H x n }:St).setP x Pl.new):=by
 obtain ⟨h1,h2,h3,h4,h5⟩:=addC_is hx
 have h0:∀ i b,s.bx i=some b→upQ b.q=true→b.ho≠x:=fun i b hb hu e=>by
  have:=(h.onP i b hb hu).1
  rw [e,h5] at this;cases this
 have hd:addH s.H x n=updZ s.H x (some (false,n.toNat,0)):=by unfold addH;rw [if_pos hx]
 rw [hd]
 exact (h.newPl ⟨h1,h2⟩ h0).hosts (x:=x) (o:=some (false,n.toNat,0)) (fun d z u q=>by
  cases q
  exact ⟨h1,h2,by omega,by omega,Nat.zero_le _,by rw [setP_at'];rfl,(useless (s:=s) h0).symm⟩) (fun q=>nomatch q)
theorem Cor.mpT {w:World} {own:Nat→Option Tag} {y:Lay} {s:St} (h:Cor w own y s):MpT w y.mp s.pl (fun h _=>ptr (y.pb h)):=(h.ob .mp).2
theorem Cor.mfT {w:World} {own:Nat→Option Tag} {y:Lay} {s:St} (h:Cor w own y s):MpT w y.mf s.fu (fun h _=>ptr (y.fb h)):=(h.ob .mf).2
theorem Cor.mbT {w:World} {own:Nat→Option Tag} {y:Lay} {s:St} (h:Cor w own y s):MpT w y.mb s.tk (fun h _=>ptr (y.bk h)):=(h.ob .mb).2
theorem NewP.bel {w w':World} {b m c:Nat} (h:NewP w b m c w'):Below w.heap.size w w':=by
 obtain ⟨_,_,_,_,_,_,_,_,_,h⟩:=h;exact h
theorem c_addHost {w:World} {own:Nat→Option Tag} {y:Lay} {s:St} (h:Cor w own y s) {K:Nat} (hI:Inv (K+64000) 0 s) (x n:Int) :
    Calls Tryz.prog 47 #[ptr y.c,.int .i64 x,.int .i64 n] w fun e w'=>e=.returned (.int .i64 (s.addHost x n).2)∧Ty w own y (s.addHost x n).1 w':=by
  have N0:=Nx.refl w own;have h0:=h;clear h;have q0:=h0.c5;have ka:=k_hadd h0 x n;obtain ⟨v,hv⟩:∃ v,addC s.H x n=v:=⟨_,rfl⟩;rw [hv] at ka;have KA:=Lib.hid ka;clear ka
  by_cases hz:v=0
  · subst hz
    have HE:=Lib.hid (addHost_yes hv);have HI1:=Lib.hid (hI.addHost1 hv);obtain ⟨hx0,hx1,_⟩:=addC_is hv;have hwf:(KL x).wf=true:=wfK (by omega) (by omega)
    have hpn:s.pl.n<maxLen:=by
                                     have:=(hI.bd (by omega)).pln;have:(1073741824:Nat)<maxLen:=by decide
                                     omega
    have HWF:=Lib.hid (And.intro hwf hpn);clear hx0 hx1 hwf hpn hI hv
    go_enter Tryz.func47,Tryz.ntmps47
    go_wp2_with fail
    with_reducible refine KA.out.mono ?_
    rintro e w1 ⟨rfl,o1,h1,n1⟩;have N1:=N0.trans n1;clear q0 N0 n1 h0 KA;obtain ⟨s1,hs1⟩:∃ s1:St,({ s with H:=addH s.H x n }:St)=s1:=⟨_,rfl⟩;rw [hs1] at h1;have hpl:s1.pl=s.pl:=by rw [←hs1]
    have HS1:=Lib.hid hs1;have HPL:=Lib.hid hpl;clear hs1 hpl;have q6:=h1.c6;have KN:=Lib.hid (c_newPlace w1.drew);have HH:=Lib.hid h1;have HWL:=Lib.hid (show s1.pl.n<maxLen by rw [HPL.out];exact HWF.out.2)
    go_wp2_with fail
    go_region_with ((go_at_call 81;with_reducible refine KN.out.mono ?_;rintro e w3 ⟨b,m,c,rfl,hN⟩;have hc3:=HH.out.drew.below hN.bel;have q6b:=hc3.c6;obtain ⟨w4,hrun,m4,g4⟩:=hc3.mpT.run_set Tryz.underlying56 HWL.out HWF.out.1 (ptr b);have HM4:=Lib.hid m4;have HG4:=Lib.hid g4;have HN:=Lib.hid hN;clear m4 g4 hN hc3))
    all_goals
     (
      obtain ⟨o5,h5,n5⟩:=Cor.newP HH.out.drew HN.out (MpT.newAt HM4.out (fun j u hj=>by rw [show (y.withP x b m c).pb j=y.pb j from if_neg hj]) (by rw [show (y.withP x b m c).pb x=b from if_pos rfl])) HG4.out
      have N5:=Lib.hid (N1.drew.trans n5);have hI5:Inv (K+64000) 0 (s1.setP x Pl.new):=by rw [←HS1.out];exact HI1.out
      have kk:Calls Tryz.prog 82 #[ptr y.c] w4 _:=(c_keepAll (y:=y.withP x b m c) h5 hI5 :);have KK:=Lib.hid kk;clear kk hI5;clear n5 hrun q6b HM4 HG4 HN HH KN q6 h1 N1 h5;go_wp2_with fail
      with_reducible refine KK.out.mono ?_
      rintro e w6 ⟨rfl,b6,o6,h6,n6⟩;go_wp2_with fail
      go_ret
      rw [HE.out,HS1.out];exact ⟨rfl,(y.withP x b m c).at_ b6,rfl,rfl,o6,h6,N5.out.trans n6⟩)
  · have d:(v == 0)=false:=by simp [hz]
    have HE:=Lib.hid (addHost_no (by rw [hv];exact hz))
    have hH:addH s.H x n=s.H:=by unfold addH;rw [if_neg (by rw [hv];exact hz)]
    rw [hH] at KA;have HV:=Lib.hid hv;clear hz hv hI
    go_enter Tryz.func47,Tryz.ntmps47
    go_wp2_with fail
    with_reducible refine KA.out.mono ?_
    rintro e w1 ⟨rfl,o1,h1,n1⟩;go_wp2_with fail
    go_ret
    rw [HE.out,HV.out];exact ⟨rfl,Ty.of ⟨o1,h1,n1⟩⟩
def Lay.withK (y:Lay) (x:Int) (b:Nat):Lay:={ y with bk:=fun j=>if j=x then b else y.bk j }
theorem Cor.newBk {w0 w w':World} {own:Nat→Option Tag} {y:Lay} {s:St} {x:Int} {b z r t:Nat} (h:Cor w0 own y s) (hb0:w0.heap.size≤b) (hB:Bk w b z r t) (hbel:Below w0.heap.size w0 w)
  (hm:MpT w' y.mb (s.tk.set x (z,r,t)) (fun a _=>ptr ((y.withK x b).bk a))) (hg:w.grownBy w' (some y.mb)) :
  ∃ own',Cor w' own' (y.withK x b) { s with tk:=s.tk.set x (z,r,t) }∧Nx w0 own w' own':=by
 have hmp:=(h.ob .mb).1;have hmpl:=h.lt _ _ hmp;have ho:Only w0 w' (fun j=>own j=some .mb):=((Only.of_below (S:=fun _=>False) hbel).mono (fun _ q=>q.elim)).trans (Only.grown (S:=fun j=>j=y.mb) hg (Or.inl rfl)) (fun j q=>Or.inl (by rw [q];exact hmp))
 have hgo:Only w w' (fun j=>j=y.mb):=Only.grown hg (Or.inl rfl);have hbl:=lt_of_row hB.2.2.2;have hsz:=hgo.size;refine ⟨_,h.turnN .mb ho (fun j=>if j=b then some (.bk x) else none) (fun j t q=>?_) (fun t0=>?_)⟩
 ·split at q
  ·omega
  ·cases q
 have nt:∀ t0,t0≠Tag.bk x→∀ j,w0.heap.size≤j→(if j=b then some (Tag.bk x) else none)≠some t0:=fun t0 a1 j _ q=>by
  split at q
  ·cases q;exact a1 rfl
  ·cases q
 cases t0 with
 | mb=>exact Or.inl ⟨(ownN_old hmpl).trans hmp,hm⟩
 | bk a =>
  by_cases e:a=x
  ·subst e
   refine Or.inl (fun v hv=>?_);rw [show (s.tk.set a (z,r,t)).a a=some (z,r,t) from Tb.set_at _ _ _] at hv
   cases hv
   rw [show (y.withK a b).bk a=b from if_pos rfl]
   exact ⟨by rw [ownN_new hb0];exact if_pos rfl,Bk.kept hB hgo (fun q=>by omega)⟩
  ·refine Or.inr ⟨(fun q=>nomatch q),fun v hv=>?_,nt _ (fun q=>by cases q;exact e rfl)⟩
   rw [show (s.tk.set x (z,r,t)).a a=s.tk.a a from Tb.set_ne _ _ e] at hv
   rw [show (y.withK x b).bk a=y.bk a from if_neg e]
   exact (h.ob (.bk a)) v hv
 | core=>exact Or.inr ⟨(fun q=>nomatch q),h.ob .core,nt _ (fun q=>nomatch q)⟩
 | led=>exact Or.inr ⟨(fun q=>nomatch q),h.ob .led,nt _ (fun q=>nomatch q)⟩
 | hos=>exact Or.inr ⟨(fun q=>nomatch q),h.ob .hos,nt _ (fun q=>nomatch q)⟩
 | tim=>exact Or.inr ⟨(fun q=>nomatch q),h.ob .tim,nt _ (fun q=>nomatch q)⟩
 | mf=>exact Or.inr ⟨(fun q=>nomatch q),h.ob .mf,nt _ (fun q=>nomatch q)⟩
 | mp=>exact Or.inr ⟨(fun q=>nomatch q),h.ob .mp,nt _ (fun q=>nomatch q)⟩
 | mx=>exact Or.inr ⟨(fun q=>nomatch q),h.ob .mx,nt _ (fun q=>nomatch q)⟩
 | ma=>exact Or.inr ⟨(fun q=>nomatch q),h.ob .ma,nt _ (fun q=>nomatch q)⟩
 | fb a=>exact Or.inr ⟨(fun q=>nomatch q),h.ob (.fb a),nt _ (fun q=>nomatch q)⟩
 | fh a=>exact Or.inr ⟨(fun q=>nomatch q),h.ob (.fh a),nt _ (fun q=>nomatch q)⟩
 | fr a=>exact Or.inr ⟨(fun q=>nomatch q),h.ob (.fr a),nt _ (fun q=>nomatch q)⟩
 | fp a=>exact Or.inr ⟨(fun q=>nomatch q),h.ob (.fp a),nt _ (fun q=>nomatch q)⟩
 | fl a=>exact Or.inr ⟨(fun q=>nomatch q),h.ob (.fl a),nt _ (fun q=>nomatch q)⟩
 | pb a=>exact Or.inr ⟨(fun q=>nomatch q),h.ob (.pb a),nt _ (fun q=>nomatch q)⟩
 | pm a=>exact Or.inr ⟨(fun q=>nomatch q),h.ob (.pm a),nt _ (fun q=>nomatch q)⟩
 | pc a=>exact Or.inr ⟨(fun q=>nomatch q),h.ob (.pc a),nt _ (fun q=>nomatch q)⟩
 | bx a=>exact Or.inr ⟨(fun q=>nomatch q),h.ob (.bx a),nt _ (fun q=>nomatch q)⟩
def Lay.withF (y:Lay) (x:Int) (fb fh fr fp fl:Nat):Lay:={ y with fb:=fun j=>if j=x then fb else y.fb j,fh:=fun j=>if j=x then fh else y.fh j,fr:=fun j=>if j=x then fr else y.fr j,fp:=fun j=>if j=x then fp else y.fp j,fl:=fun j=>if j=x then fl else y.fl j }
structure NewF (w:World) (x a m:Int) (fb fh fr fp fl:Nat) (w':World):Prop where
 ge:w.heap.size≤fb∧w.heap.size≤fh∧w.heap.size≤fr∧w.heap.size≤fp∧w.heap.size≤fl
 ne:fb≠fh∧fb≠fr∧fb≠fp∧fb≠fl∧fh≠fr∧fh≠fp∧fh≠fl∧fr≠fp∧fr≠fl∧fp≠fl
 row:w'.heap[fb]?=some (.cells #[.int .i64 x,.int .i64 a,.int .i64 m,.int .i64 0,.int .i64 0,.int .i64 0,.int .i64 (-1),.int .i64 0,ptr fh,ptr fr,.map (some fp),.map (some fl)] 146 (0,0))
 hs:Hs w' fh (fun _=>0) 0
 rg:Rg w' fr []
 mp:Mp Tryz.prog 3 w' fp (fun _=>none) 0
 ml:Mp Tryz.prog 3 w' fl (fun _=>none) 0
 bel:Below w.heap.size w w'
theorem Cor.newF {w0 w w':World} {own:Nat→Option Tag} {y:Lay} {s:St} {x a m:Int} {fb fh fr fp fl:Nat} (h:Cor w0 own y s) (hN:NewF w0 x a m fb fh fr fp fl w)
  (hm:MpT w' y.mf (s.fu.set x (Fu.new a m)) (fun f _=>ptr ((y.withF x fb fh fr fp fl).fb f))) (hg:w.grownBy w' (some y.mf)) :
  ∃ own',Cor w' own' (y.withF x fb fh fr fp fl) (s.setG x (Fu.new a m))∧Nx w0 own w' own':=by
 obtain ⟨⟨g1,g2,g3,g4,g5⟩,⟨n1,n2,n3,n4,n5,n6,n7,n8,n9,n10⟩,hrow,hhs,hrg,hmp0,hml0,hbel⟩:=hN;have hmp:=(h.ob .mf).1;have hmpl:=h.lt _ _ hmp;have ho:Only w0 w' (fun j=>own j=some .mf):=((Only.of_below (S:=fun _=>False) hbel).mono (fun _ q=>q.elim)).trans (Only.grown (S:=fun j=>j=y.mf) hg (Or.inl rfl)) (fun j q=>Or.inl (by rw [q];exact hmp))
 have hgo:Only w w' (fun j=>j=y.mf):=Only.grown hg (Or.inl rfl);have l1:=lt_of_row hrow;have l2:=lt_of_row hhs.2;have l3:fr<w.heap.size:=by obtain ⟨zs,_,q⟩:=hrg;exact lt_of_row q
 have l4:=hmp0.lt;have l5:=hml0.lt;have hsz:=hgo.size;obtain ⟨τ,hτ⟩:∃ τ:Nat→Option Tag,τ=fun j=>if j=fb then some (.fb x) else if j=fh then some (.fh x) else if j=fr then some (.fr x) else if j=fp then some (.fp x) else if j=fl then some (.fl x) else none:=⟨_,rfl⟩;have t1:τ fb=some (.fb x):=by rw [hτ];exact if_pos rfl
 have t2:τ fh=some (.fh x):=by rw [hτ];show (if _ then _ else _)=_;rw [if_neg (fun q=>n1 q.symm),if_pos rfl]
 have t3:τ fr=some (.fr x):=by rw [hτ];show (if _ then _ else _)=_;rw [if_neg (fun q=>n2 q.symm),if_neg (fun q=>n5 q.symm),if_pos rfl]
 have t4:τ fp=some (.fp x):=by rw [hτ];show (if _ then _ else _)=_;rw [if_neg (fun q=>n3 q.symm),if_neg (fun q=>n6 q.symm),if_neg (fun q=>n8 q.symm),if_pos rfl]
 have t5:τ fl=some (.fl x):=by rw [hτ];show (if _ then _ else _)=_;rw [if_neg (fun q=>n4 q.symm),if_neg (fun q=>n7 q.symm),if_neg (fun q=>n9 q.symm),if_neg (fun q=>n10 q.symm),if_pos rfl]
 have inv:∀ j t,τ j=some t→(j=fb∧t=.fb x)∨(j=fh∧t=.fh x)∨(j=fr∧t=.fr x)∨(j=fp∧t=.fp x)∨(j=fl∧t=.fl x):=fun j t q=>by
  rw [hτ] at q;dsimp only at q
  split at q
  ·cases q;exact Or.inl ⟨by assumption,rfl⟩
  ·split at q
   ·cases q;exact Or.inr (Or.inl ⟨by assumption,rfl⟩)
   ·split at q
    ·cases q;exact Or.inr (Or.inr (Or.inl ⟨by assumption,rfl⟩))
    ·split at q
     ·cases q;exact Or.inr (Or.inr (Or.inr (Or.inl ⟨by assumption,rfl⟩)))
     ·split at q
      ·cases q;exact Or.inr (Or.inr (Or.inr (Or.inr ⟨by assumption,rfl⟩)))
      ·cases q
 clear hτ;refine ⟨_,h.turnN .mf ho τ (fun j t q=>by rcases inv j t q with ⟨a,_⟩ | ⟨a,_⟩ | ⟨a,_⟩ | ⟨a,_⟩ | ⟨a,_⟩ <;> omega) (fun t0=>?_)⟩
 have nt:∀ t0,t0≠Tag.fb x→t0≠.fh x→t0≠.fr x→t0≠.fp x→t0≠.fl x→∀ j,w0.heap.size≤j→τ j≠some t0:=fun t0 a1 a2 a3 a4 a5 j _ q=>by
  rcases inv j t0 q with ⟨_,e⟩ | ⟨_,e⟩ | ⟨_,e⟩ | ⟨_,e⟩ | ⟨_,e⟩
  ·exact a1 e
  ·exact a2 e
  ·exact a3 e
  ·exact a4 e
  ·exact a5 e
 have fk:∀ z p,(s.setG x (Fu.new a m)).fu.a z=some p→z≠x→s.fu.a z=some p:=fun z p hp hz=>by
  rw [show (s.setG x (Fu.new a m)).fu.a z=s.fu.a z from Tb.set_ne _ _ hz] at hp;exact hp
 have fx:∀ p,(s.setG x (Fu.new a m)).fu.a x=some p→p=Fu.new a m:=fun p hp=>by rw [setG_at] at hp;cases hp;rfl
 have yb:∀ z,z≠x→(y.withF x fb fh fr fp fl).fb z=y.fb z∧(y.withF x fb fh fr fp fl).fh z=y.fh z∧(y.withF x fb fh fr fp fl).fr z=y.fr z∧(y.withF x fb fh fr fp fl).fp z=y.fp z∧(y.withF x fb fh fr fp fl).fl z=y.fl z:=fun z hz=>⟨if_neg hz,if_neg hz,if_neg hz,if_neg hz,if_neg hz⟩;have yx:(y.withF x fb fh fr fp fl).fb x=fb∧(y.withF x fb fh fr fp fl).fh x=fh∧(y.withF x fb fh fr fp fl).fr x=fr∧(y.withF x fb fh fr fp fl).fp x=fp∧(y.withF x fb fh fr fp fl).fl x=fl:=⟨if_pos rfl,if_pos rfl,if_pos rfl,if_pos rfl,if_pos rfl⟩
 cases t0 with
 | mf=>exact Or.inl ⟨(ownN_old hmpl).trans hmp,hm⟩
 | fb z =>
  by_cases e:z=x
  ·subst e
   refine Or.inl (fun p hp=>?_);rw [fx p hp];rw [yx.1];refine ⟨by rw [ownN_new g1];exact t1,?_⟩
   rw [hgo.blk (fun q=>by omega) hrow]
   show _=some (Obj.cells (frow (y.withF z fb fh fr fp fl) z (Fu.new a m)).toArray _ _);unfold frow;rw [yx.2.1,yx.2.2.1,yx.2.2.2.1,yx.2.2.2.2];rfl
  ·refine Or.inr ⟨(fun q=>nomatch q),fun p hp=>?_,nt _ (fun q=>by cases q;exact e rfl) (fun q=>nomatch q) (fun q=>nomatch q) (fun q=>nomatch q) (fun q=>nomatch q)⟩
   have:=(h.ob (.fb z)) p (fk z p hp e)
   rw [(yb z e).1];refine ⟨this.1,?_⟩;rw [this.2];unfold frow;rw [(yb z e).2.1,(yb z e).2.2.1,(yb z e).2.2.2.1,(yb z e).2.2.2.2]
 | fh z =>
  by_cases e:z=x
  ·subst e
   refine Or.inl (fun p hp=>?_);rw [fx p hp];rw [yx.2.1];exact ⟨by rw [ownN_new g2];exact t2,Hs.kept hhs hgo (fun q=>by omega)⟩
  ·refine Or.inr ⟨(fun q=>nomatch q),fun p hp=>?_,nt _ (fun q=>nomatch q) (fun q=>by cases q;exact e rfl) (fun q=>nomatch q) (fun q=>nomatch q) (fun q=>nomatch q)⟩
   have:=(h.ob (.fh z)) p (fk z p hp e)
   rw [(yb z e).2.1];exact this
 | fr z =>
  by_cases e:z=x
  ·subst e
   refine Or.inl (fun p hp=>?_);rw [fx p hp];rw [yx.2.2.1];exact ⟨by rw [ownN_new g3];exact t3,Rg.kept hrg hgo (fun q=>by omega)⟩
  ·refine Or.inr ⟨(fun q=>nomatch q),fun p hp=>?_,nt _ (fun q=>nomatch q) (fun q=>nomatch q) (fun q=>by cases q;exact e rfl) (fun q=>nomatch q) (fun q=>nomatch q)⟩
   have:=(h.ob (.fr z)) p (fk z p hp e)
   rw [(yb z e).2.2.1];exact this
 | fp z =>
  by_cases e:z=x
  ·subst e
   refine Or.inl (fun p hp=>?_);rw [fx p hp];rw [yx.2.2.2.1];exact ⟨by rw [ownN_new g4];exact t4,hmp0.kept hgo (fun q=>by omega)⟩
  ·refine Or.inr ⟨(fun q=>nomatch q),fun p hp=>?_,nt _ (fun q=>nomatch q) (fun q=>nomatch q) (fun q=>nomatch q) (fun q=>by cases q;exact e rfl) (fun q=>nomatch q)⟩
   have:=(h.ob (.fp z)) p (fk z p hp e)
   rw [(yb z e).2.2.2.1];exact this
 | fl z =>
  by_cases e:z=x
  ·subst e
   refine Or.inl (fun p hp=>?_);rw [fx p hp];rw [yx.2.2.2.2];exact ⟨by rw [ownN_new g5];exact t5,hml0.kept hgo (fun q=>by omega)⟩
  ·refine Or.inr ⟨(fun q=>nomatch q),fun p hp=>?_,nt _ (fun q=>nomatch q) (fun q=>nomatch q) (fun q=>nomatch q) (fun q=>nomatch q) (fun q=>by cases q;exact e rfl)⟩
   have:=(h.ob (.fl z)) p (fk z p hp e)
   rw [(yb z e).2.2.2.2];exact this
 | core=>exact Or.inr ⟨(fun q=>nomatch q),h.ob .core,nt _ (fun q=>nomatch q) (fun q=>nomatch q) (fun q=>nomatch q) (fun q=>nomatch q) (fun q=>nomatch q)⟩
 | led=>exact Or.inr ⟨(fun q=>nomatch q),h.ob .led,nt _ (fun q=>nomatch q) (fun q=>nomatch q) (fun q=>nomatch q) (fun q=>nomatch q) (fun q=>nomatch q)⟩
 | hos=>exact Or.inr ⟨(fun q=>nomatch q),h.ob .hos,nt _ (fun q=>nomatch q) (fun q=>nomatch q) (fun q=>nomatch q) (fun q=>nomatch q) (fun q=>nomatch q)⟩
 | tim=>exact Or.inr ⟨(fun q=>nomatch q),h.ob .tim,nt _ (fun q=>nomatch q) (fun q=>nomatch q) (fun q=>nomatch q) (fun q=>nomatch q) (fun q=>nomatch q)⟩
 | mb=>exact Or.inr ⟨(fun q=>nomatch q),h.ob .mb,nt _ (fun q=>nomatch q) (fun q=>nomatch q) (fun q=>nomatch q) (fun q=>nomatch q) (fun q=>nomatch q)⟩
 | mp=>exact Or.inr ⟨(fun q=>nomatch q),h.ob .mp,nt _ (fun q=>nomatch q) (fun q=>nomatch q) (fun q=>nomatch q) (fun q=>nomatch q) (fun q=>nomatch q)⟩
 | mx=>exact Or.inr ⟨(fun q=>nomatch q),h.ob .mx,nt _ (fun q=>nomatch q) (fun q=>nomatch q) (fun q=>nomatch q) (fun q=>nomatch q) (fun q=>nomatch q)⟩
 | ma=>exact Or.inr ⟨(fun q=>nomatch q),h.ob .ma,nt _ (fun q=>nomatch q) (fun q=>nomatch q) (fun q=>nomatch q) (fun q=>nomatch q) (fun q=>nomatch q)⟩
 | bk a=>exact Or.inr ⟨(fun q=>nomatch q),h.ob (.bk a),nt _ (fun q=>nomatch q) (fun q=>nomatch q) (fun q=>nomatch q) (fun q=>nomatch q) (fun q=>nomatch q)⟩
 | pb a=>exact Or.inr ⟨(fun q=>nomatch q),h.ob (.pb a),nt _ (fun q=>nomatch q) (fun q=>nomatch q) (fun q=>nomatch q) (fun q=>nomatch q) (fun q=>nomatch q)⟩
 | pm a=>exact Or.inr ⟨(fun q=>nomatch q),h.ob (.pm a),nt _ (fun q=>nomatch q) (fun q=>nomatch q) (fun q=>nomatch q) (fun q=>nomatch q) (fun q=>nomatch q)⟩
 | pc a=>exact Or.inr ⟨(fun q=>nomatch q),h.ob (.pc a),nt _ (fun q=>nomatch q) (fun q=>nomatch q) (fun q=>nomatch q) (fun q=>nomatch q) (fun q=>nomatch q)⟩
 | bx a=>exact Or.inr ⟨(fun q=>nomatch q),h.ob (.bx a),nt _ (fun q=>nomatch q) (fun q=>nomatch q) (fun q=>nomatch q) (fun q=>nomatch q) (fun q=>nomatch q)⟩
end Go.Proofs.YthdengocipfgiaaGreat.W.C
