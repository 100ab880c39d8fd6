import Derived.Test.YthdengocipfgiaaGreatCaA
import Derived.Test.YthdengocipfgiaaGreatRows
import Derived.DeepKeys4
/- A part of what core's laws stand on. -/
set_option linter.unusedVariables false
set_option linter.unusedSimpArgs false
set_option maxRecDepth 100000
set_option maxHeartbeats 1600000
namespace Go.Proofs.YthdengocipfgiaaGreat.W.HT
abbrev K:=Int×Int
def updZ {α:Type} (f:K→Option α) (i:K) (a:Option α):K→Option α:=fun j=>if j=i then a else f j
theorem updZ_same {α:Type} (f:K→Option α) (i:K) (a:Option α):updZ f i a i=a:=by simp [updZ]
theorem updZ_ne {α:Type} (f:K→Option α) {i j:K} (a:Option α) (h:j≠i):updZ f i a j=f j:=by simp [updZ,h]
theorem updZ_twice {α:Type} (f:K→Option α) (i:K) (a b:Option α):updZ (updZ f i a) i b=updZ f i b:=by
 funext j;unfold updZ;split <;> rfl
variable {V:Type} {lt:V→V→Bool} {ok:V→Prop}
structure Hole (lt:V→V→Bool) (ok:V→Prop) (n:Nat) (T:Nat→K×V) (i:Nat):Prop where
 lt_n:i<n
 okV:∀ j,j<n→j≠i→ok (T j).2
 ord:∀ j,0<j→j<n→j≠i→par j≠i→lt (T j).2 (T (par j)).2=false
 skip:∀ j,0<j→j<n→par j=i→0<i→lt (T j).2 (T (par i)).2=false
structure Pl (n:Nat) (T:Nat→K×V) (i:Nat) (k0:K) (M:K→Option Nat) (A:K→Option V):Prop where
 nk:∀ j,j<n→j≠i→(T j).1≠k0
 inj:∀ j k,j<n→k<n→j≠i→k≠i→(T j).1=(T k).1→j=k
 at_:∀ k,k≠k0→∀ j,M k=some j↔(j<n∧j≠i∧(T j).1=k)
 con:∀ k v,A k=some v↔∃ j,j<n∧j≠i∧T j=(k,v)
structure Full (lt:V→V→Bool) (ok:V→Prop) (n:Nat) (T:Nat→K×V) (M:K→Option Nat) (A:K→Option V):Prop where
 okV:∀ j,j<n→ok (T j).2
 ord:∀ j,0<j→j<n→lt (T j).2 (T (par j)).2=false
 inj:∀ j k,j<n→k<n→(T j).1=(T k).1→j=k
 at_:∀ k j,M k=some j↔(j<n∧(T j).1=k)
 con:∀ k v,A k=some v↔∃ j,j<n∧T j=(k,v)
theorem Full.empty (T:Nat→K×V):Full lt ok 0 T (fun _=>none) (fun _=>none) :=
 ⟨fun j h=>absurd h (by omega),fun j _ h=>absurd h (by omega),fun j k h=>absurd h (by omega),fun k j=>by simp,fun k v=>by simp⟩
theorem Full.get {n:Nat} {T:Nat→K×V} {M:K→Option Nat} {A:K→Option V} (h:Full lt ok n T M A) {k:K} {j:Nat} (hj:M k=some j):j<n∧A k=some (T j).2∧(T j).1=k:=by
 obtain ⟨h1,h2⟩:=(h.at_ k j).1 hj;exact ⟨h1,(h.con _ _).2 ⟨j,h1,by rw [←h2]⟩,h2⟩
theorem Full.isnone {n:Nat} {T:Nat→K×V} {M:K→Option Nat} {A:K→Option V} (h:Full lt ok n T M A) {k:K} (hj:M k=none):A k=none:=by
 cases e:A k with
 | none=>rfl
 | some v =>
  obtain ⟨j,h1,h2⟩:=(h.con _ _).1 e;have:=(h.at_ k j).2 ⟨h1,by rw [h2]⟩
  rw [hj] at this;cases this
theorem Pl.move {n:Nat} {T:Nat→K×V} {i p:Nat} {k0:K} {M:K→Option Nat} {A:K→Option V} (h:Pl n T i k0 M A) (hi:i<n) (hp:p<n) (hpi:p≠i) :
  Pl n (upd T i (T p)) p k0 (updZ M (T p).1 (some i)) A where
 nk:=by
  intro j hj hjp
  by_cases e:j=i
  ·subst e;rw [upd_same];exact h.nk p hp hpi
  ·rw [upd_ne _ _ e];exact h.nk j hj e
 inj:=by
  intro j k hj hk hjp hkp hjk
  by_cases e:j=i <;> by_cases e':k=i
  ·omega
  ·subst e;rw [upd_same,upd_ne _ _ e'] at hjk
   exact absurd (h.inj p k hp hk hpi e' hjk).symm hkp
  ·subst e';rw [upd_same,upd_ne _ _ e] at hjk
   exact absurd (h.inj j p hj hp e hpi hjk) hjp
  ·rw [upd_ne _ _ e,upd_ne _ _ e'] at hjk;exact h.inj j k hj hk e e' hjk
 at_:=by
  intro k hk j
  by_cases e:k=(T p).1
  ·subst e
   rw [updZ_same]
   constructor
   ·intro q;cases q;exact ⟨hi,fun q=>hpi q.symm,by rw [upd_same]⟩
   ·rintro ⟨h1,h2,h3⟩
    by_cases e':j=i
    ·rw [e']
    ·rw [upd_ne _ _ e'] at h3;exact absurd (h.inj j p h1 hp e' hpi h3) h2
  ·rw [updZ_ne _ _ e,h.at_ k hk j]
   constructor
   ·rintro ⟨h1,h2,h3⟩
    refine ⟨h1,fun q=>?_,by rw [upd_ne _ _ h2];exact h3⟩
    subst q;exact e h3.symm
   ·rintro ⟨h1,h2,h3⟩
    by_cases e':j=i
    ·subst e';rw [upd_same] at h3;exact absurd h3.symm e
    ·rw [upd_ne _ _ e'] at h3;exact ⟨h1,e',h3⟩
 con:=by
  intro k v;rw [h.con]
  constructor
  ·rintro ⟨j,h1,h2,h3⟩
   by_cases e:j=p
   ·subst e;exact ⟨i,hi,fun q=>hpi q.symm,by rw [upd_same];exact h3⟩
   ·exact ⟨j,h1,e,by rw [upd_ne _ _ h2];exact h3⟩
  ·rintro ⟨j,h1,h2,h3⟩
   by_cases e:j=i
   ·subst e;rw [upd_same] at h3;exact ⟨p,hp,hpi,h3⟩
   ·rw [upd_ne _ _ e] at h3;exact ⟨j,h1,e,h3⟩
theorem Hole.up {n:Nat} {T:Nat→K×V} {i:Nat} (O:Odr lt ok) (h:Hole lt ok n T i) (hi:0<i):Hole lt ok n (upd T i (T (par i))) (par i):=by
 have hp:=par_lt hi;have hpn:par i<n:=Nat.lt_trans hp h.lt_n;have hpi:par i≠i:=Nat.ne_of_lt hp;have okp:=h.okV (par i) hpn hpi;refine ⟨hpn,?_,?_,?_⟩
 ·intro j hj hjp
  by_cases e:j=i
  ·subst e;rw [upd_same];exact okp
  ·rw [upd_ne _ _ e];exact h.okV j hj e
 ·intro j h0 hj hjp hpj
  have e:j≠i:=fun e=>hpj (by rw [e])
  rw [upd_ne _ _ e]
  by_cases e':par j=i
  ·rw [e',upd_same];exact h.skip j h0 hj e' hi
  ·rw [upd_ne _ _ e'];exact h.ord j h0 hj e e'
 ·intro j h0 hj hpj hp0
  have hpp:par (par i)≠i:=fun q=>by have:=par_lt hp0;omega
  rw [upd_ne _ _ hpp];have a1:=h.ord (par i) hp0 hpn hpi (fun q=>by have:=par_lt hp0;omega)
  by_cases e:j=i
  ·rw [e,upd_same];exact a1
  ·rw [upd_ne _ _ e]
   have a2:=h.ord j h0 hj e (by rw [hpj];exact hpi)
   rw [hpj] at a2;exact O.ntr _ _ _ (h.okV j hj e) okp (h.okV _ (by have:=par_lt hp0;omega) hpp) a2 a1
theorem Hole.down {n:Nat} {T:Nat→K×V} {i c:Nat} (h:Hole lt ok n T i) (hc0:0<c) (hc:c<n) (hpc:par c=i)
  (hmin:∀ j,0<j→j<n→par j=i→lt (T j).2 (T c).2=false):Hole lt ok n (upd T i (T c)) c:=by
 have hic:i<c:=by rw [←hpc];exact par_lt hc0
 have hci:c≠i:=by omega
 refine ⟨hc,?_,?_,?_⟩
 ·intro j hj hjc
  by_cases e:j=i
  ·subst e;rw [upd_same];exact h.okV c hc hci
  ·rw [upd_ne _ _ e];exact h.okV j hj e
 ·intro j h0 hj hjc hpj
  by_cases e:j=i
  ·subst e
   rw [upd_same,upd_ne _ _ (by have:=par_lt h0;omega)]
   exact h.skip c hc0 hc hpc h0
  ·rw [upd_ne _ _ e]
   by_cases e':par j=i
   ·rw [e',upd_same];exact hmin j h0 hj e'
   ·rw [upd_ne _ _ e'];exact h.ord j h0 hj e e'
 ·intro j h0 hj hpj _
  have e:j≠i:=by intro q;have:=par_lt h0;omega
  rw [upd_ne _ _ e,hpc,upd_same];have:=h.ord j h0 hj e (by rw [hpj];exact hci)
  rw [hpj] at this;exact this
theorem Hole.fill {n:Nat} {T:Nat→K×V} {i:Nat} {k0:K} {v:V} {M:K→Option Nat} {A:K→Option V} (h:Hole lt ok n T i) (g:Pl n T i k0 M A) (hv:ok v)
  (hup:0<i→lt v (T (par i)).2=false) (hdn:∀ j,0<j→j<n→par j=i→lt (T j).2 v=false) :
  Full lt ok n (upd T i (k0,v)) (updZ M k0 (some i)) (updZ A k0 (some v)) where
 okV:=by
  intro j hj
  by_cases e:j=i
  ·subst e;rw [upd_same];exact hv
  ·rw [upd_ne _ _ e];exact h.okV j hj e
 ord:=by
  intro j h0 hj;have:=par_lt h0
  by_cases e:j=i
  ·subst e;rw [upd_same,upd_ne _ _ (by omega)];exact hup h0
  ·rw [upd_ne _ _ e]
   by_cases e':par j=i
   ·rw [e',upd_same];exact hdn j h0 hj e'
   ·rw [upd_ne _ _ e'];exact h.ord j h0 hj e e'
 inj:=by
  intro j k hj hk hjk
  by_cases e:j=i <;> by_cases e':k=i
  ·omega
  ·subst e;rw [upd_same,upd_ne _ _ e'] at hjk;exact absurd hjk.symm (g.nk k hk e')
  ·subst e';rw [upd_same,upd_ne _ _ e] at hjk;exact absurd hjk (g.nk j hj e)
  ·rw [upd_ne _ _ e,upd_ne _ _ e'] at hjk;exact g.inj j k hj hk e e' hjk
 at_:=by
  intro k j
  by_cases e:k=k0
  ·subst e;rw [updZ_same]
   constructor
   ·intro q;cases q;exact ⟨h.lt_n,by rw [upd_same]⟩
   ·rintro ⟨h1,h2⟩
    by_cases e':j=i
    ·rw [e']
    ·rw [upd_ne _ _ e'] at h2;exact absurd h2 (g.nk j h1 e')
  ·rw [updZ_ne _ _ e,g.at_ k e j]
   constructor
   ·rintro ⟨h1,h2,h3⟩;exact ⟨h1,by rw [upd_ne _ _ h2];exact h3⟩
   ·rintro ⟨h1,h2⟩
    by_cases e':j=i
    ·subst e';rw [upd_same] at h2;exact absurd h2.symm e
    ·rw [upd_ne _ _ e'] at h2;exact ⟨h1,e',h2⟩
 con:=by
  intro k u
  by_cases e:k=k0
  ·subst e;rw [updZ_same]
   constructor
   ·intro q;cases q;exact ⟨i,h.lt_n,by rw [upd_same]⟩
   ·rintro ⟨j,h1,h2⟩
    by_cases e':j=i
    ·subst e';rw [upd_same] at h2;cases h2;rfl
    ·rw [upd_ne _ _ e'] at h2;exact absurd (by rw [h2]) (g.nk j h1 e')
  ·rw [updZ_ne _ _ e,g.con]
   constructor
   ·rintro ⟨j,h1,h2,h3⟩;exact ⟨j,h1,by rw [upd_ne _ _ h2];exact h3⟩
   ·rintro ⟨j,h1,h2⟩
    by_cases e':j=i
    ·subst e';rw [upd_same] at h2;cases h2;exact absurd rfl e
    ·rw [upd_ne _ _ e'] at h2;exact ⟨j,h1,e',h2⟩
theorem Full.free {n:Nat} {T:Nat→K×V} {M:K→Option Nat} {A:K→Option V} (O:Odr lt ok) (h:Full lt ok n T M A) {k:K} {i:Nat} (hi:M k=some i) :
  Hole lt ok n T i∧Pl n T i k M (updZ A k none):=by
 obtain ⟨h1,h2⟩:=(h.at_ k i).1 hi;refine ⟨⟨h1,fun j hj _=>h.okV j hj,fun j h0 hj _ _=>h.ord j h0 hj,fun j h0 hj hp hi0=>?_⟩,⟨?_,?_,?_,?_⟩⟩
 ·have a1:=h.ord j h0 hj
  rw [hp] at a1;exact O.ntr _ _ _ (h.okV j hj) (h.okV i h1) (h.okV _ (by have:=par_lt hi0;omega)) a1 (h.ord i hi0 h1)
 ·intro j hj e q;exact e (h.inj j i hj h1 (by rw [q,h2]))
 ·intro j k hj hk _ _ q;exact h.inj j k hj hk q
 ·intro k' e j
  rw [h.at_]
  constructor
  ·rintro ⟨a,b⟩;exact ⟨a,fun q=>e (by rw [←b,q,h2]),b⟩
  ·rintro ⟨a,_,b⟩;exact ⟨a,b⟩
 ·intro k' u
  by_cases e:k'=k
  ·subst e;rw [updZ_same]
   constructor
   ·intro q;cases q
   ·rintro ⟨j,a,b,c⟩;exact absurd (h.inj j i a h1 (by rw [h2,c])) b
  ·rw [updZ_ne _ _ e,h.con]
   constructor
   ·rintro ⟨j,a,b⟩;exact ⟨j,a,fun q=>e (by rw [←h2,←q,b]),b⟩
   ·rintro ⟨j,a,_,b⟩;exact ⟨j,a,b⟩
theorem Full.more {n:Nat} {T T':Nat→K×V} {M:K→Option Nat} {A:K→Option V} (h:Full lt ok n T M A) {k:K} (hk:M k=none) (hT:∀ j,j<n→T' j=T j) :
  Hole lt ok (n+1) T' n∧Pl (n+1) T' n k M (updZ A k none):=by
 have hA:=h.isnone hk;have low:∀ j,j<n+1→j≠n→j<n:=fun j a b=>by omega
 refine ⟨⟨by omega,?_,?_,?_⟩,⟨?_,?_,?_,?_⟩⟩
 ·intro j hj e;rw [hT j (low j hj e)];exact h.okV j (low j hj e)
 ·intro j h0 hj e _;have:=par_lt h0;rw [hT j (low j hj e),hT (par j) (by omega)];exact h.ord j h0 (low j hj e)
 ·intro j h0 hj e h1;unfold par at e;omega
 ·intro j hj e q
  rw [hT j (low j hj e)] at q;have:=(h.at_ k j).2 ⟨low j hj e,q⟩
  rw [hk] at this;cases this
 ·intro j i hj hi e e' q
  rw [hT j (low j hj e),hT i (low i hi e')] at q;exact h.inj j i (low j hj e) (low i hi e') q
 ·intro k' _ j
  rw [h.at_]
  constructor
  ·rintro ⟨a,b⟩;exact ⟨by omega,by omega,by rw [hT j a];exact b⟩
  ·rintro ⟨a,b,c⟩;rw [hT j (low j a b)] at c;exact ⟨low j a b,c⟩
 ·intro k' u
  have:updZ A k none k'=A k':=by
   by_cases e:k'=k
   ·subst e;rw [updZ_same,hA]
   ·rw [updZ_ne _ _ e]
  rw [this,h.con]
  constructor
  ·rintro ⟨j,a,b⟩;exact ⟨j,by omega,by omega,by rw [hT j a];exact b⟩
  ·rintro ⟨j,a,b,c⟩;rw [hT j (low j a b)] at c;exact ⟨j,low j a b,c⟩
theorem Full.drop {n:Nat} {T T':Nat→K×V} {M:K→Option Nat} {A:K→Option V} (O:Odr lt ok) (h:Full lt ok (n+1) T M A) {k:K} {i:Nat} (hi:M k=some i) (hn:i<n) (hT:∀ j,j<n→T' j=T j) :
  Hole lt ok n T' i∧Pl n T' i (T n).1 (updZ M k none) (updZ (updZ A k none) (T n).1 none):=by
 obtain ⟨h1,h2⟩:=(h.at_ k i).1 hi;refine ⟨⟨hn,?_,?_,?_⟩,⟨?_,?_,?_,?_⟩⟩
 ·intro j hj _;rw [hT j hj];exact h.okV j (by omega)
 ·intro j h0 hj _ _;have:=par_lt h0;rw [hT j hj,hT (par j) (by omega)];exact h.ord j h0 (by omega)
 ·intro j h0 hj hp hi0
  have:=par_lt hi0
  rw [hT j hj,hT (par i) (by omega)]
  have a1:=h.ord j h0 (by omega)
  rw [hp] at a1;exact O.ntr _ _ _ (h.okV j (by omega)) (h.okV i h1) (h.okV _ (by omega)) a1 (h.ord i hi0 h1)
 ·intro j hj e q
  rw [hT j hj] at q;have:=h.inj j n (by omega) (by omega) q
  omega
 ·intro j l hj hl _ _ q
  rw [hT j hj,hT l hl] at q;exact h.inj j l (by omega) (by omega) q
 ·intro k' e j
  by_cases e':k'=k
  ·subst e';rw [updZ_same]
   constructor
   ·intro q;cases q
   ·rintro ⟨a,b,c⟩;rw [hT j a] at c;exact absurd (h.inj j i (by omega) h1 (by rw [c,h2])) b
  ·rw [updZ_ne _ _ e',h.at_]
   constructor
   ·rintro ⟨a,b⟩
    have hjn:j<n:=by
     rcases Nat.lt_or_ge j n with q | q
     ·exact q
     ·exfalso;apply e;rw [←b];congr 2;omega
    exact ⟨hjn,fun q=>e' (by rw [←b,q,h2]),by rw [hT j hjn];exact b⟩
   ·rintro ⟨a,_,c⟩;rw [hT j a] at c;exact ⟨by omega,c⟩
 ·intro k' u
  by_cases e:k'=(T n).1
  ·subst e;rw [updZ_same]
   constructor
   ·intro q;cases q
   ·rintro ⟨j,a,b,c⟩
    rw [hT j a] at c;have:=h.inj j n (by omega) (by omega) (by rw [c])
    omega
  ·rw [updZ_ne _ _ e]
   by_cases e':k'=k
   ·subst e';rw [updZ_same]
    constructor
    ·intro q;cases q
    ·rintro ⟨j,a,b,c⟩;rw [hT j a] at c;exact absurd (h.inj j i (by omega) h1 (by rw [c,h2])) b
   ·rw [updZ_ne _ _ e',h.con]
    constructor
    ·rintro ⟨j,a,b⟩
     have hjn:j<n:=by
      rcases Nat.lt_or_ge j n with q | q
      ·exact q
      ·exfalso;apply e
       have:j=n:=by omega
       subst this;rw [b]
     exact ⟨j,hjn,fun q=>e' (by rw [←h2,←q,b]),by rw [hT j hjn];exact b⟩
    ·rintro ⟨j,a,_,c⟩;rw [hT j a] at c;exact ⟨j,by omega,c⟩
theorem Full.last {n:Nat} {T T':Nat→K×V} {M:K→Option Nat} {A:K→Option V} (h:Full lt ok (n+1) T M A) {k:K} (hi:M k=some n) (hT:∀ j,j<n→T' j=T j) :
  Full lt ok n T' (updZ M k none) (updZ A k none):=by
 obtain ⟨h1,h2⟩:=(h.at_ k n).1 hi;refine ⟨?_,?_,?_,?_,?_⟩
 ·intro j hj;rw [hT j hj];exact h.okV j (by omega)
 ·intro j h0 hj;have:=par_lt h0;rw [hT j hj,hT (par j) (by omega)];exact h.ord j h0 (by omega)
 ·intro j l hj hl q;rw [hT j hj,hT l hl] at q;exact h.inj j l (by omega) (by omega) q
 ·intro k' j
  by_cases e':k'=k
  ·subst e';rw [updZ_same]
   constructor
   ·intro q;cases q
   ·rintro ⟨a,c⟩;rw [hT j a] at c;have:=h.inj j n (by omega) h1 (by rw [c,h2]);omega
  ·rw [updZ_ne _ _ e',h.at_]
   constructor
   ·rintro ⟨a,b⟩
    have hjn:j<n:=by
     rcases Nat.lt_or_ge j n with q | q
     ·exact q
     ·exfalso;apply e'
      have:j=n:=by omega
      subst this;rw [←b,h2]
    exact ⟨hjn,by rw [hT j hjn];exact b⟩
   ·rintro ⟨a,c⟩;rw [hT j a] at c;exact ⟨by omega,c⟩
 ·intro k' u
  by_cases e':k'=k
  ·subst e';rw [updZ_same]
   constructor
   ·intro q;cases q
   ·rintro ⟨j,a,c⟩;rw [hT j a] at c;have:=h.inj j n (by omega) h1 (by rw [h2,c]);omega
  ·rw [updZ_ne _ _ e',h.con]
   constructor
   ·rintro ⟨j,a,b⟩
    have hjn:j<n:=by
     rcases Nat.lt_or_ge j n with q | q
     ·exact q
     ·exfalso;apply e'
      have:j=n:=by omega
      subst this;rw [←h2,b]
    exact ⟨j,hjn,by rw [hT j hjn];exact b⟩
   ·rintro ⟨j,a,c⟩;rw [hT j a] at c;exact ⟨j,by omega,c⟩
theorem Full.least {n:Nat} {T:Nat→K×V} {M:K→Option Nat} {A:K→Option V} (O:Odr lt ok) (h:Full lt ok n T M A):∀ j,j<n→lt (T j).2 (T 0).2=false:=by
 intro j
 induction j using Nat.strongRecOn with
 | _ j ih =>
  intro hj
  rcases Nat.eq_zero_or_pos j with e | e
  ·subst e;exact O.irr _ (h.okV 0 hj)
  ·have hp:=par_lt e
   exact O.ntr _ _ _ (h.okV j hj) (h.okV _ (by omega)) (h.okV 0 (by omega)) (h.ord j e hj) (ih (par j) hp (by omega))
theorem Full.mn {n:Nat} {T:Nat→K×V} {M:K→Option Nat} {A:K→Option V} (O:Odr lt ok) (h:Full lt ok n T M A) (hn:0<n) :
  A (T 0).1=some (T 0).2∧∀ k v,A k=some v→lt v (T 0).2=false:=by
 refine ⟨(h.con _ _).2 ⟨0,hn,rfl⟩,fun k v hk=>?_⟩;obtain ⟨j,h1,h2⟩:=(h.con _ _).1 hk;have:=h.least O j h1
 rw [h2] at this;exact this
theorem Full.zero {T:Nat→K×V} {M:K→Option Nat} {A:K→Option V} (h:Full lt ok 0 T M A) (k:K):A k=none:=by
 cases e:A k with
 | none=>rfl
 | some v=>obtain ⟨j,h1,_⟩:=(h.con _ _).1 e;omega
end Go.Proofs.YthdengocipfgiaaGreat.W.HT
namespace Go.Proofs.YthdengocipfgiaaGreat.W.HT
open Go.RowKit Go.Maps
abbrev kv (x:K):Value:=.agg #[.int .i64 x.1,.int .i64 x.2]
def KS (x:K):Lit:=.string (keyBytes [.int .i64 x.1,.int .i64 x.2])
def kw (x:K):Prop:=(Lit.int .i64 x.1).wf=true∧(Lit.int .i64 x.2).wf=true
theorem kw0:kw (0,0):=⟨by decide,by decide⟩
theorem kv_inj {x y:K} (h:kv x=kv y):x=y:=by
 simp only [kv,Value.agg.injEq,Array.mk.injEq,List.cons.injEq,Value.int.injEq,true_and,and_true] at h;exact Prod.ext h.1 h.2
structure Kd (P:Program) (k:TypeId):Prop where
 keyed:Keyed P k
 made:∀ x:K,kw x→keyOf P k (kv x)=some (KS x)
 inv:∀ {v:Value} {l:Lit},keyOf P k v=some l→∃ x:K,v=kv x∧l=KS x∧kw x
theorem Kd.inj {P:Program} {k:TypeId} (h:Kd P k) {x y:K} (hx:kw x) (hy:kw y) (q:KS x=KS y):x=y :=
 kv_inj (h.keyed.inj (h.made x hx) (by rw [q];exact h.made y hy))
theorem litI {P:Program} {e:TypeId} (he:P.underlying e=some (.int .i64)) (m:Nat) (x:Value) (l:List Lit) (h:P.keyLits (m+1) e [x]=some l):∃ n:Int,x=.int .i64 n∧(Lit.int .i64 n).wf=true∧l=[.int .i64 n]:=by
 unfold Program.keyLits at h;simp only [he] at h
 cases x <;> simp at h
 obtain ⟨⟨rfl,h2⟩,h3⟩:=h;exact ⟨_,rfl,h2,h3.symm⟩
theorem litI' {P:Program} {e:TypeId} (he:P.underlying e=some (.int .i64)) (m:Nat) (n:Int) (h:(Lit.int .i64 n).wf=true):P.keyLits (m+1) e [.int .i64 n]=some [.int .i64 n]:=by
 unfold Program.keyLits;simp [he,h]
theorem kd_of {P : Program} {k e : TypeId} {f1 f2 : Field} (hu : P.underlying k = some (.struct #[f1, f2])) (he : P.underlying e = some (.int .i64)) (t1 : f1.type = e) (t2 : f2.type = e) (o1 : f1.offset = 0) (o2 : f2.offset = 1) (hn : (#[f1, f2] : Array Field).all (·.name != "_") = true)
  (hc:P.cellsOf k=2) (hce:P.cellsOf e=1) (hk:P.keyType k=true) (hs:∃ m,P.types.size=m+1) (hK:Keyed P k):Kd P k where
 keyed:=hK
 made:=by
  intro x hx;obtain ⟨m,hm⟩:=hs;unfold keyOf;simp only [hu];rw [if_pos (by simp [hk,Value.formed,hu,hc]),hm]
  unfold Program.keyLits;simp only [hu,Value.cells];rw [if_pos (by rw [hc];exact ⟨rfl,hn⟩)]
  simp [t1,t2,o1,o2,hce,litI' he m _ hx.1,litI' he m _ hx.2,KS]
 inv:=by
  intro v l h;obtain ⟨m,hm⟩:=hs;unfold keyOf at h;simp only [hu] at h
  split at h
  ·rename_i hf
   rw [hm] at h;simp only [Bool.and_eq_true] at hf;obtain ⟨_,hf⟩:=hf
   cases v with
   | agg cs =>
    simp [Value.formed,hu,hc] at hf;obtain ⟨cs⟩:=cs
    match cs,hf with
    | [c0,c1],_ =>
     unfold Program.keyLits at h;simp only [hu,Value.cells] at h;rw [if_pos (by rw [hc];exact ⟨rfl,hn⟩)] at h
     simp [t1,t2,o1,o2,hce] at h
     cases h1:P.keyLits (m+1) e [c0] with
     | none=>simp [h1] at h
     | some l1 =>
      cases h2:P.keyLits (m+1) e [c1] with
      | none=>simp [h1,h2] at h
      | some l2 =>
       obtain ⟨n,rfl,w1,rfl⟩:=litI he m _ _ h1;obtain ⟨n',rfl,w2,rfl⟩:=litI he m _ _ h2;simp [h1,h2] at h;exact ⟨(n,n'),rfl,h.symm,w1,w2⟩
   | _=>simp [Value.formed,hu] at hf
  ·cases h
theorem rowK:(77:Nat)<Tryz.prog.types.size:=of_decide_eq_true (by kernel_rfl)
theorem sizeP:∃ m,Tryz.prog.types.size=m+1:=Nat.exists_eq_succ_of_ne_zero (fun h=>by have:=rowK;rw [h] at this;exact absurd this (Nat.not_lt_zero _))
theorem kd:Kd Tryz.prog 77 :=
 kd_of Tryz.underlying77 Tryz.underlying3 rfl rfl rfl rfl (by kernel_rfl) (by kernel_rfl) (by kernel_rfl) (by kernel_rfl) sizeP
  (Keyed.of_law (deep_law_laid (show laidOutB Tryz.prog=true by kernel_rfl) (m:=2) (by omega) rowK (by kernel_rfl) (by kernel_rfl)))
end Go.Proofs.YthdengocipfgiaaGreat.W.HT
namespace Go.Proofs.YthdengocipfgiaaGreat.W.HT
open Go.RowKit Go.Maps Go.ChangeMaps Go.MapKept
def Mp (P:Program) (t:TypeId) (w:World) (b:Nat) (M:K→Option Value) (c:Nat):Prop :=
 ∃ D,w.ownsMap P t RV b c D∧Maps.size D=c∧∀ x,kw x→Maps.has D (KS x)=(M x).isSome∧∀ v,M x=some v→∀ z,D.atKey (KS x) z=.held v
theorem Mp.lt {P:Program} {t:TypeId} {w:World} {b:Nat} {M:K→Option Value} {c:Nat} (h:Mp P t w b M c):b<w.heap.size:=by obtain ⟨D,h,_⟩:=h;exact h.lt
theorem Mp.kept {P:Program} {t:TypeId} {w w':World} {b:Nat} {M:K→Option Value} {c:Nat} {S:Nat→Prop} (h:Mp P t w b M c) (ho:Only w w' S) (hb:¬ S b):Mp P t w' b M c:=by
 have hl:=h.lt;obtain ⟨D,⟨es,clock,h1,h2,h3,h4⟩,h5,h6⟩:=h;exact ⟨D,⟨es,clock,by rw [ho.block b hl hb];exact h1,h2,h3,h4⟩,h5,h6⟩
theorem Mp.made (P:Program) (t:TypeId) (w:World):Mp P t (w.alloc (.map #[] 0)) w.heap.size (fun _=>none) 0 :=
 ⟨.map [],World.ownsMap_made w P t RV,rfl,fun x _=>⟨rfl,fun v h=>by cases h⟩⟩
theorem Mp.row {P:Program} {t:TypeId} {w:World} {b:Nat} {M:K→Option Value} {c:Nat} (h:Mp P t w b M c):∃ es clock,w.heap[b]?=some (.map es clock):=by
 obtain ⟨D,⟨es,clock,h,_⟩,_⟩:=h;exact ⟨es,clock,h⟩
theorem Mp.ext {P:Program} {t:TypeId} {w:World} {b:Nat} {M M':K→Option Value} {c:Nat} (h:Mp P t w b M c) (e:∀ x,kw x→M x=M' x):Mp P t w b M' c:=by
 obtain ⟨D,h1,h2,h3⟩:=h;exact ⟨D,h1,h2,fun x hx=>by rw [←e x hx];exact h3 x hx⟩
section
variable {P:Program} {w:World} {ops:Array Oper} {rest:List Oper} {o:Oper} {a:Act} {Q:Exit→Act→World→Prop}
theorem wpList_mp_ok (hg:o.guard=none) (m x:Operand) (t:TypeId) (hop:o.op=Op.lookup t m x true) (k e:TypeId) (hk:Kd P k) (ht:P.underlying t=some (.map k e))
  {z:Value} (hz:(zeroValue e).run P w=.ok z w) (b:Nat) (M:K→Option Value) (c:Nat) (hm:a.eval m=.map (some b)) (h:Mp P k w b M c) (n:K) (hx:a.eval x=kv n) (hw:kw n)
  (r:Option Value) (hr:M n=r) (hK:wpList P ops Q rest (a.put o.dst (.tuple #[r.getD z,.bool r.isSome])) w):wpList P ops Q (o :: rest) a w:=by
 obtain ⟨D,h1,h2,h3⟩:=h;refine wpList_lookup_own_ok w hg m x t hop k e (hk.keyed) ht RV hz (.held z) [] rfl b c D hm h1 (kv n) (KS n) hx (hk.made n hw) ?_;intro v ps hv;obtain ⟨h4,h5⟩:=h3 n hw;rw [h4,hr]
 have:v=r.getD z:=by
  unfold RV at hv
  cases r with
  | none =>
   rw [hr] at h4;rw [Maps.atKey_of_not_has h4] at hv;simp at hv;exact hv.1
  | some u =>
   rw [h5 u hr] at hv;simp at hv;exact hv.1
 rw [this];exact hK
theorem wpList_mp_len (hg:o.guard=none) (m:Operand) (t:TypeId) (hop:o.op=Op.call { callee:=Callee.builtin Builtin.len,args:=#[m],argTypes:=#[t] }) (k e:TypeId) (ht:P.underlying t=some (.map k e))
  (b:Nat) (M:K→Option Value) (c:Nat) (hm:a.eval m=.map (some b)) (h:Mp P k w b M c) (hK:wpList P ops Q rest (a.put o.dst (.int .i64 (c:Int))) w):wpList P ops Q (o :: rest) a w:=by
 obtain ⟨D,h1,h2,h3⟩:=h;refine wpList_len_own w hg m t hop k e ht RV b c D hm h1 ?_;rw [h2];exact hK
theorem wpList_mp_del (hg:o.guard=none) (m x:Operand) (t k:TypeId) (hop:o.op=Op.call { callee:=Callee.builtin Builtin.delete,args:=#[m,x],argTypes:=#[t,k] }) (e:TypeId) (hk:Kd P k) (ht:P.underlying t=some (.map k e))
  (b:Nat) (M:K→Option Value) (c:Nat) (hm:a.eval m=.map (some b)) (h:Mp P k w b M c) (n:K) (hx:a.eval x=kv n) (hw:kw n)
  (c':Nat) (hc:c'=if (M n).isSome then c-1 else c) (hK:∀ w',Mp P k w' b (updZ M n none) c'→w.grownBy w' (some b)→wpList P ops Q rest (a.put o.dst (.tuple #[])) w'):wpList P ops Q (o :: rest) a w:=by
 obtain ⟨D,h1,h2,h3⟩:=h;refine wpList_delete_own w hg m x t k hop e (hk.keyed) ht RV b c D hm h1 (kv n) (KS n) hx (hk.made n hw) ?_;intro w' h4 h5;have hs:=Maps.size_del (k:=KS n) (h1.tidy (hk.keyed));rw [(h3 n hw).1] at hs
 have hh:Maps.size (D.del (KS n))=c':=by
  rw [hc]
  cases q:(M n).isSome <;> simp [q] at hs ⊢ <;> omega
 refine hK w' ⟨D.del (KS n),by rw [←hh];exact tight h4,hh,?_⟩ h5.grown
 intro x hx
 by_cases e:x=n
 ·subst e;rw [updZ_same];exact ⟨Maps.has_del_same,fun v h=>by cases h⟩
 ·have ne:KS x≠KS n:=fun q=>e (hk.inj hx hw q)
  rw [updZ_ne _ _ e,Maps.has_del_other ne];exact ⟨(h3 x hx).1,fun v hv z=>by rw [Maps.atKey_del_other ne];exact (h3 x hx).2 v hv z⟩
theorem wpList_mp_set (hg:o.guard=none) (m x v:Operand) (t:TypeId) (hop:o.op=Op.mapUpdate t m x v) (k e:TypeId) (hk:Kd P k) (ht:P.underlying t=some (.map k e))
  (b:Nat) (M:K→Option Value) (c:Nat) (hm:a.eval m=.map (some b)) (h:Mp P k w b M c) (hc0:c<maxLen) (n:K) (hx:a.eval x=kv n) (hw:kw n) (val:Value) (hv:a.eval v=val)
  (c':Nat) (hc:c'=if (M n).isSome then c else c+1) (hK:∀ w',Mp P k w' b (updZ M n (some val)) c'→w.grownBy w' (some b)→wpList P ops Q rest (a.put o.dst undef) w'):wpList P ops Q (o :: rest) a w:=by
 obtain ⟨D,h1,h2,h3⟩:=h;refine wpList_mapUpdate_own w hg m x v t hop k e (hk.keyed) ht RV b c D hm h1 hc0 (kv n) val (KS n) hx hv (hk.made n hw) (.held val) [] rfl ?_;intro w' h4 h5;have hs:=Maps.size_put (k:=KS n) (h1.tidy (hk.keyed)) (.held val);rw [(h3 n hw).1] at hs;have hh:Maps.size (D.put (KS n) (.held val))=c':=by rw [hs,hc,h2]
 refine hK w' ⟨_,by rw [←hh];exact tight h4,hh,?_⟩ h5
 intro x hx;have hkl:WideAt.IsKeyLit (KS n):=trivial
 by_cases e:x=n
 ·subst e;rw [updZ_same];exact ⟨Maps.has_put_same h1.isMap hkl _,fun v h z=>by cases h;exact Maps.atKey_put_same h1.isMap hkl _ _⟩
 ·have ne:KS x≠KS n:=fun q=>e (hk.inj hx hw q)
  rw [updZ_ne _ _ e,Maps.has_put_other ne];exact ⟨(h3 x hx).1,fun v hv z=>by rw [Maps.atKey_put_other ne];exact (h3 x hx).2 v hv z⟩
theorem wpList_nilmap_ok (hg:o.guard=none) (m x:Operand) (t:TypeId) (hop:o.op=Op.lookup t m x true) (k e:TypeId) (hk:Kd P k) (ht:P.underlying t=some (.map k e))
  {z:Value} (hz:(zeroValue e).run P w=.ok z w) (hm:a.eval m=.map none) (n:K) (hx:a.eval x=kv n) (hw:kw n)
  (hK:wpList P ops Q rest (a.put o.dst (.tuple #[z,.bool false])) w):wpList P ops Q (o :: rest) a w:=by
 refine wpList_plain hg fun K' hK'=>?_;have:=Maps.look_nil (w:=w) true (hk.keyed) ht hz (hk.made n hw)
 unfold Oper.wp;simp at this;simp [execOp,hop,hm,hx,this,Result.andThen];exact hK' _ _ hK
end
theorem Mp.run_at {P:Program} {w:World} {b:Nat} {M:K→Option Value} {c:Nat} {k e t:TypeId} (h:Mp P k w b M c) (hk:Kd P k) (ht:P.underlying t=some (.map k e)) {z:Value} (hz:(zeroValue e).run P w=.ok z w) {n:K} (hw:kw n) :
  (Instr.lookup t (.map (some b)) (kv n) false).run P w=.ok ((M n).getD z) w:=by
 obtain ⟨D,h1,h2,h3⟩:=h;obtain ⟨v,ps,hrun,hv⟩:=h1.lookup (hk.keyed) ht hz (zd:=.held z) (zp:=[]) rfl (hk.made n hw);obtain ⟨h4,h5⟩:=h3 n hw
 have:v=(M n).getD z:=by
  unfold RV at hv
  cases hr:M n with
  | none =>
   rw [hr] at h4;rw [Maps.atKey_of_not_has h4] at hv;simp at hv;exact hv.1
  | some u =>
   rw [h5 u hr] at hv;simp at hv;exact hv.1
 rw [←this];exact hrun
theorem Mp.run_ok {P:Program} {w:World} {b:Nat} {M:K→Option Value} {c:Nat} {k e t:TypeId} (h:Mp P k w b M c) (hk:Kd P k) (ht:P.underlying t=some (.map k e)) {z:Value} (hz:(zeroValue e).run P w=.ok z w) {n:K} (hw:kw n) :
  (Instr.lookup t (.map (some b)) (kv n) true).run P w=.ok (.tuple #[(M n).getD z,.bool (M n).isSome]) w:=by
 obtain ⟨D,h1,h2,h3⟩:=h;obtain ⟨es,clock,hb,F,hn,hD⟩:=h1;obtain ⟨h4,h5⟩:=h3 n hw
 rcases Maps.fit_look true (hk.keyed) ht hz hb F (hk.made n hw) with ⟨hrun,_,hat⟩ | ⟨e0,y,_,_,hrun,hRv,hat,_⟩
 ·cases hr:M n with
  | none=>simpa using hrun
  | some v =>
   have:=h5 v hr (.lit (.bool true))
   rw [hD,hat] at this
   cases this
 ·have hy:y.1=.held e0.val:=by unfold RV at hRv;cases hRv;rfl
  cases hr:M n with
  | none =>
   rw [hr] at h4;have:=Maps.atKey_of_not_has h4 (z:=(.lit (.bool true):DataW Value))
   rw [hD,hat,hy] at this
   cases this
  | some v =>
   have:=h5 v hr (.lit (.bool true))
   rw [hD,hat,hy] at this
   cases this
   simpa using hrun
section
variable {P:Program} {w:World} {ops:Array Oper} {rest:List Oper} {o:Oper} {a:Act} {Q:Exit→Act→World→Prop}
theorem wpList_mp_some (hg:o.guard=none) (m x:Operand) (t:TypeId) (hop:o.op=Op.lookup t m x true) (k e:TypeId) (hk:Kd P k) (ht:P.underlying t=some (.map k e))
  {z:Value} (hz:(zeroValue e).run P w=.ok z w) (b:Nat) (M:K→Option Value) (c:Nat) (hm:a.eval m=.map (some b)) (h:Mp P k w b M c) (n:K) (hx:a.eval x=kv n) (hw:kw n)
  (v:Value) (hr:M n=some v) (hK:wpList P ops Q rest (a.put o.dst (.tuple #[v,.bool true])) w):wpList P ops Q (o :: rest) a w :=
 wpList_mp_ok hg m x t hop k e hk ht hz b M c hm h n hx hw (some v) hr hK
theorem wpList_mp_none (hg:o.guard=none) (m x:Operand) (t:TypeId) (hop:o.op=Op.lookup t m x true) (k e:TypeId) (hk:Kd P k) (ht:P.underlying t=some (.map k e))
  {z:Value} (hz:(zeroValue e).run P w=.ok z w) (b:Nat) (M:K→Option Value) (c:Nat) (hm:a.eval m=.map (some b)) (h:Mp P k w b M c) (n:K) (hx:a.eval x=kv n) (hw:kw n)
  (hr:M n=none) (hK:wpList P ops Q rest (a.put o.dst (.tuple #[z,.bool false])) w):wpList P ops Q (o :: rest) a w :=
 wpList_mp_ok hg m x t hop k e hk ht hz b M c hm h n hx hw none hr hK
end
end Go.Proofs.YthdengocipfgiaaGreat.W.HT
namespace Go.Proofs.YthdengocipfgiaaGreat.W.HT
open Go.RowKit
abbrev V:=Int×Int×Int
abbrev ic (x:K×V):List Value:=[.int .i64 x.1.1,.int .i64 x.1.2,.int .i64 x.2.1,.int .i64 x.2.2.1,.int .i64 x.2.2.2]
abbrev vv (x:V):Value:=.agg #[.int .i64 x.1,.int .i64 x.2.1,.int .i64 x.2.2]
theorem enc:Enc ic 5:=⟨fun _=>rfl,by decide,fun x u hu=>by simp at hu;rcases hu with rfl | rfl | rfl | rfl | rfl <;> rfl⟩
def lt (a b:V):Bool:=decide (a.1<b.1∨a.1=b.1∧(a.2.1<b.2.1∨a.2.1=b.2.1∧a.2.2<b.2.2))
def ok (v:V):Prop:=(Lit.int .i64 v.1).wf=true∧kw v.2
theorem odr:Odr lt ok:=by
 refine ⟨fun a b _ _ h=>?_,fun a b c _ _ _ h h'=>?_⟩
 ·have h1:=of_decide_eq_true h
  exact decide_eq_false (by omega)
 ·have h1:=of_decide_eq_false h
  have h2:=of_decide_eq_false h';exact decide_eq_false (by omega)
theorem sizeIt:(Tryz.prog.info? 139).map (·.size)=some 5:=by kernel_rfl
theorem zeroI (w:World):(zeroValue 3).run Tryz.prog w=.ok (.int .i64 0) w:=by kernel_rfl
structure St (w:World) (r:Nat) (Fv:Value) (g cap b n:Nat) (T:Nat→K×V) (M:K→Option Nat) (c:Nat):Prop where
 blk:w.heap[r]?=some (.cells #[Fv,.slice (some ⟨g,0,none⟩) n cap,.map (some b)] 137 (0,0))
 row:Row ic 5 139 w g n cap T
 mp:Mp Tryz.prog 77 w b (fun k=>(M k).map (fun j:Nat=>Value.int .i64 (j:Int))) c
 rg:r≠g
 rb:r≠b
 gb:g≠b
 keys:∀ j,j<n→kw (T j).1
theorem mapZ (M:K→Option Nat) (k:K) (i:Nat):(fun k'=>(updZ M k (some i) k').map (fun j:Nat=>Value.int .i64 (j:Int)))=updZ (fun k'=>(M k').map (fun j:Nat=>Value.int .i64 (j:Int))) k (some (.int .i64 (i:Int))):=by
 funext k';unfold updZ;split <;> rfl
theorem St.kept {w w':World} {r:Nat} {Fv:Value} {g cap b n:Nat} {T:Nat→K×V} {M:K→Option Nat} {c:Nat} {S:Nat→Prop} (h:St w r Fv g cap b n T M c) (ho:Only w w' S) (hr:¬ S r) (hg:¬ S g) (hb:¬ S b):St w' r Fv g cap b n T M c :=
 ⟨ho.blk hr h.blk,h.row.kept ho hg,h.mp.kept ho hb,h.rg,h.rb,h.gb,h.keys⟩
theorem St.c0 {w:World} {r:Nat} {Fv:Value} {g cap b n:Nat} {T:Nat→K×V} {M:K→Option Nat} {c:Nat} (h:St w r Fv g cap b n T M c):w.cell? ⟨r,0,none⟩=some Fv:=cell_of_row _ _ _ _ _ _ h.blk
theorem St.c1 {w:World} {r:Nat} {Fv:Value} {g cap b n:Nat} {T:Nat→K×V} {M:K→Option Nat} {c:Nat} (h:St w r Fv g cap b n T M c):w.cell? ⟨r,1,none⟩=some (.slice (some ⟨g,0,none⟩) n cap):=cell_of_row _ _ _ _ _ _ h.blk
theorem St.c2 {w:World} {r:Nat} {Fv:Value} {g cap b n:Nat} {T:Nat→K×V} {M:K→Option Nat} {c:Nat} (h:St w r Fv g cap b n T M c):w.cell? ⟨r,2,none⟩=some (.map (some b)):=cell_of_row _ _ _ _ _ _ h.blk
theorem put_any (r:Nat) (Fv:Value) (g cap b n:Nat) (T:Nat→K×V) (M:K→Option Nat) (c:Nat) (i:Nat) (k:K) (v:V) (w:World) (h:St w r Fv g cap b n T M c) (hi:i<n) (hk:kw k) (hc:c<maxLen) (c':Nat) (hc':c'=if (M k).isSome then c else c+1) :
  Calls Tryz.prog 158 #[.pointer (some ⟨r,0,none⟩),.int .i64 (i:Int),.agg #[.int .i64 k.1,.int .i64 k.2,.int .i64 v.1,.int .i64 v.2.1,.int .i64 v.2.2]] w fun e w'=>e=.returned (.tuple #[])∧St w' r Fv g cap b n (upd T i (k,v)) (updZ M k (some i)) c'∧Only w w' (fun j=>j=g∨j=b):=by
 have HC:=Lib.hid hc';clear hc';have hr1:=lt_of_row h.blk;have hg1:=h.row.lt;have hb1:=h.mp.lt;have ho:Only w (w.alloc (.cells #[.int .i64 k.1,.int .i64 k.2,.int .i64 v.1,.int .i64 v.2.1,.int .i64 v.2.2] 139)) (fun j=>j=g∨j=b):=(Only.refl w _).alloc _;have h2:=h.kept (Only.alloc (Only.refl w (fun _=>False)) (.cells #[.int .i64 k.1,.int .i64 k.2,.int .i64 v.1,.int .i64 v.2.1,.int .i64 v.2.2] 139)) (fun q=>q) (fun q=>q) (fun q=>q);have hH:(w.alloc (.cells #[.int .i64 k.1,.int .i64 k.2,.int .i64 v.1,.int .i64 v.2.1,.int .i64 v.2.2] 139)).heap[w.heap.size]?=some (.cells #[.int .i64 k.1,.int .i64 k.2,.int .i64 v.1,.int .i64 v.2.1,.int .i64 v.2.2] 139):=heap_alloc_new w _;have hHs:w.heap.size<(w.alloc (.cells #[.int .i64 k.1,.int .i64 k.2,.int .i64 v.1,.int .i64 v.2.1,.int .i64 v.2.2] 139)).heap.size:=lt_of_row hH;have hnH:w.heap.size≠g∧w.heap.size≠b:=by omega
 go_enter Tryz.func158,Tryz.ntmps158
 go_wp2
 generalize w.alloc (.cells #[.int .i64 k.1,.int .i64 k.2,.int .i64 v.1,.int .i64 v.2.1,.int .i64 v.2.2] 139)=w1 at ho h2 hH hHs ⊢;have e1:=h2.c1;have e2:=cell_of_row _ _ 0 _ _ _ hH;have e3:=cell_of_row _ _ 1 _ _ _ hH;have e4:=cell_of_row _ _ 2 _ _ _ hH;have e5:=cell_of_row _ _ 3 _ _ _ hH;have e6:=cell_of_row _ _ 4 _ _ _ hH;have hni:(i:Int)<(n:Int):=by omega
 go_still_tail 7,(by kernel_rfl)
 change wpList _ _ _ _ _ w1.drew;have hd:Only w1 w1.drew (fun _=>False):=(Only.refl w1 _).drewN 1;have h3:=h2.kept hd (fun q=>q) (fun q=>q) (fun q=>q);have hH3:=hd.blk (fun q=>q) hH;have ho3:=ho.trans hd (fun _ q=>q.elim);clear e1 e2 e3 e4 e5 e6 h2 hH ho;generalize w1.drew=w2 at h3 hH3 ho3 hd ⊢;refine wpList_item_set enc rfl 139 (.tmp 12) (.tmp 11) rfl sizeIt g n cap i T rfl (k,v) rfl h3.row hi ?_;intro w3 hrow hg3;have ho4:Only w2 w3 (fun j=>j=g):=Only.grown hg3 (Or.inl rfl);have hb3:=ho4.blk h3.rg h3.blk;have hm3:=h3.mp.kept ho4 (fun q=>h3.gb q.symm);have hH4:=ho4.blk hnH.1 hH3;have ho5:=ho3.trans ho4 (fun _ q=>Or.inl (Or.inl q));have e0:=cell_of_row _ _ 0 _ _ _ hH4;have e0':=cell_of_row _ _ 1 _ _ _ hH4;have e2:=cell_of_row _ _ 2 _ _ _ hb3
 go_wp2
 go_still_tail 7,(by kernel_rfl)
 change wpList _ _ _ _ _ w3.drew;have hd2:Only w3 w3.drew (fun _=>False):=(Only.refl w3 _).drewN 1;refine wpList_mp_set rfl (.tmp 16) (.tmp 18) (.tmp 19) 135 rfl 77 3 kd Tryz.underlying135 b _ c rfl (hm3.kept hd2 (fun q=>q)) hc k rfl hk (.int .i64 (i:Int)) rfl c' (by rw [HC.out];simp) ?_
 intro w4 hm4 hg4;have ho6:Only w3 w4 (fun j=>j=b):=(hd2.mono (fun _ q=>q.elim)).tr (Only.grown hg4 (Or.inl rfl));clear e0 e0' e2
 go_wp2
 go_end0
 refine ⟨rfl,⟨ho6.blk h3.rb hb3,hrow.kept ho6 h3.gb,?_,h3.rg,h3.rb,h3.gb,?_⟩,ho5.trans ho6 (fun _ q=>Or.inl (Or.inr q))⟩
 ·rw [mapZ];exact hm4
 ·intro j hj
  by_cases e:j=i
  ·subst e;rw [upd_same];exact hk
  ·rw [upd_ne _ _ e];exact h3.keys j hj
structure Less (r:Nat) (Fv:Value) (S:Nat→Prop) (C:Nat→World→Prop):Prop where
 call:∀ (w:World) (m:Nat) (x y:V),w.cell? ⟨r,0,none⟩=some Fv→C m w→m<4611686018427387904→ok x→ok y →
  Calls Tryz.prog 177 #[.pointer (some ⟨r,0,none⟩),vv x,vv y] w fun e w'=>e=.returned (.bool (lt x y))∧C (m+1) w'∧Only w w' S
 keep:∀ (w w':World) (m:Nat) (S':Nat→Prop),C m w→Only w w' S'→(∀ j,S j→¬ S' j)→C m w'
theorem child_any {r:Nat} {Fv:Value} {S:Nat→Prop} {C:Nat→World→Prop} (L:Less r Fv S C) (g cap b n:Nat) (T:Nat→K×V) (M:K→Option Nat) (c:Nat) (i:Nat) (w:World) (h:St w r Fv g cap b n T M c) (ho:Hole lt ok n T i)
  (hi:2*i+1<n) (hn:n<1073741824) (m:Nat) (hm:m<4611686018427387904) (hC:C m w) :
  Calls Tryz.prog 178 #[.pointer (some ⟨r,0,none⟩),.int .i64 (i:Int)] w fun e w'=>∃ ch a:Nat,e=.returned (.int .i64 (ch:Int))∧0<ch∧ch<n∧par ch=i ∧
   (∀ j,0<j→j<n→par j=i→lt (T j).2 (T ch).2=false)∧a≤1∧C (m+a) w'∧Only w w' S:=by
 have c1:=h.c1;have hcap:=h.row.cap_;obtain ⟨l,hl⟩:∃ l,l=2*i+1:=⟨_,rfl⟩;obtain ⟨l2,hl2⟩:∃ l2,l2=2*i+2:=⟨_,rfl⟩;have okl:=ho.okV l (by omega) (by omega)
 have w1:IntKind.i64.wrap (2*(i:Int))=2*(i:Int):=wrap_small _ (by omega) (by omega)
 have w2:IntKind.i64.wrap (2*(i:Int)+1)=(l:Int):=by rw [wrap_small _ (by omega) (by omega)];omega
 have w3:IntKind.i64.wrap (2*(i:Int)+2)=(l2:Int):=by rw [wrap_small _ (by omega) (by omega)];omega
 have HL:=Lib.hid hl;have HL2:=Lib.hid hl2;clear hl hl2
 by_cases hr:l2<n
 ·have okr:=ho.okV l2 hr (by have:=HL2.out;omega)
  obtain ⟨⟨kl,vl⟩,hTl⟩:∃ x,T l=x:=⟨_,rfl⟩;obtain ⟨⟨kr,vr⟩,hTr⟩:∃ x,T l2=x:=⟨_,rfl⟩;have hln:(l:Int)<(n:Int):=by have:=HL.out;omega
  have hrn:(l2:Int)<(n:Int):=by omega
  have hl0:l<n:=by have:=HL.out;omega
  have x1:w.cell? ⟨g,l*5+2,none⟩=some (.int .i64 vl.1):=h.row.cell (c:=2) hl0 (by rw [hTl];rfl) rfl
  have x2:w.cell? ⟨g,l*5+3,none⟩=some (.int .i64 vl.2.1):=h.row.cell (c:=3) hl0 (by rw [hTl];rfl) rfl
  have x3:w.cell? ⟨g,l*5+4,none⟩=some (.int .i64 vl.2.2):=h.row.cell (c:=4) hl0 (by rw [hTl];rfl) rfl
  have y1:w.cell? ⟨g,l2*5+2,none⟩=some (.int .i64 vr.1):=h.row.cell (c:=2) hr (by rw [hTr];rfl) rfl
  have y2:w.cell? ⟨g,l2*5+3,none⟩=some (.int .i64 vr.2.1):=h.row.cell (c:=3) hr (by rw [hTr];rfl) rfl
  have y3:w.cell? ⟨g,l2*5+4,none⟩=some (.int .i64 vr.2.2):=h.row.cell (c:=4) hr (by rw [hTr];rfl) rfl
  rw [hTl] at okl;rw [hTr] at okr;have HTL:=Lib.hid hTl;have HTR:=Lib.hid hTr;have hdr:decide ((l2:Int)<(n:Int))=true:=by simp;omega
  have hcall:=L.call w.drew m (vr) (vl) h.c0 (L.keep w w.drew m (fun _=>False) hC ((Only.refl w _).drewN 1) (fun _ _ q=>q)) hm okr okl;clear hTl hTr
  go_enter Tryz.func178,Tryz.ntmps178
  go_wp2
  go_still_tail 25,(by kernel_rfl)
  change wpList _ _ _ _ _ w.drew;have hd:Only w w.drew S:=(Only.refl w _).drewN 1;clear x1 y1 c1;clear x2 x3 y2 y3;generalize w.drew=wd at hcall hd ⊢
  cases hlt:lt vr vl with
  | true =>
   rw [hlt] at hcall;have HLT:=Lib.hid hlt;clear hlt;go_wp2_with fail
   refine hcall.mono ?_;rintro e w' ⟨rfl,hC',ho'⟩;clear hcall;go_wp2_with fail
   go_ret
   refine ⟨l2,1,rfl,?_,hr,?_,?_,Nat.le_refl _,hC',hd.tr ho'⟩
   ·have:=HL2.out;omega
   ·rw [HL2.out];exact par_right i
   ·intro j h0 hj hpj
    rcases par_cases h0 hpj with q | q
    ·rw [←HL.out] at q;subst q
     rw [HTL.out,HTR.out];exact odr.asym _ _ okr okl HLT.out
    ·rw [←HL2.out] at q;subst q
     rw [HTR.out];exact odr.irr _ okr
  | false =>
   rw [hlt] at hcall;have HLT:=Lib.hid hlt;clear hlt;go_wp2_with fail
   refine hcall.mono ?_;rintro e w' ⟨rfl,hC',ho'⟩;clear hcall;go_wp2_with fail
   go_ret
   refine ⟨l,1,rfl,?_,hl0,?_,?_,Nat.le_refl _,hC',hd.tr ho'⟩
   ·have:=HL.out;omega
   ·rw [HL.out];exact par_left i
   ·intro j h0 hj hpj
    rcases par_cases h0 hpj with q | q
    ·rw [←HL.out] at q;subst q
     rw [HTL.out];exact odr.irr _ okl
    ·rw [←HL2.out] at q;subst q
     rw [HTL.out,HTR.out];exact HLT.out
 ·have hdr:decide ((l2:Int)<(n:Int))=false:=by simp;omega
  have hl0:l<n:=by have:=HL.out;omega
  go_enter Tryz.func178,Tryz.ntmps178
  go_wp2
  go_quiet (fail)
  go_wp2
  go_ret
  refine ⟨l,0,rfl,?_,hl0,?_,?_,by omega,L.keep w (w.drewN _) m (fun _=>False) hC ((Only.refl w _).drewN _) (fun _ _ q=>q),(Only.refl w _).drewN _⟩
  ·have:=HL.out;omega
  ·rw [HL.out];exact par_left i
  ·intro j h0 hj hpj
   rcases par_cases h0 hpj with q | q
   ·rw [←HL.out] at q;subst q
    exact odr.irr _ okl
   ·rw [←HL2.out] at q;omega
def dom (g b:Nat) (S:Nat→Prop):Nat→Prop:=fun j=>j=g∨j=b∨S j
theorem two_pow_step {a x y:Nat} (h:2 ^ a*(x+1)≤y) (hx:0<x):2 ^ (a+1)*(par x+1)≤y:=by
 have h1:2*(par x+1)≤x+1:=by unfold par;omega
 have h2:=Nat.mul_le_mul_left (2 ^ a) h1;rw [Nat.pow_succ,Nat.mul_assoc];omega
theorem two_pow_le {a x y:Nat} (h:2 ^ a*(x+1)≤y):2 ^ a≤y:=Nat.le_trans (Nat.le_mul_of_pos_right _ (by omega)) h
theorem rise_any {r:Nat} {Fv:Value} {S:Nat→Prop} {C:Nat→World→Prop} (L:Less r Fv S C) (g cap b n:Nat) (T:Nat→K×V) (M:K→Option Nat) (c:Nat) (i:Nat) (k0:K) (A:K→Option V) (v:V) (w:World)
  (h:St w r Fv g cap b n T M c) (ho:Hole lt ok n T i) (hp:Pl n T i k0 M A) (hv:ok v) (hn:n<1073741824) (hc:c<maxLen) (m:Nat) (hm:m<2305843009213693952) (hC:C m w) (hS:∀ j,S j→j≠r∧j≠g∧j≠b) (hSw:∀ j,S j→j<w.heap.size) :
  Calls Tryz.prog 156 #[.pointer (some ⟨r,0,none⟩),.int .i64 (i:Int),(.agg #[.int .i64 v.1,.int .i64 v.2.1,.int .i64 v.2.2])] w fun e w'=>∃ (T':Nat→K×V) (M':K→Option Nat) (i' a:Nat),e=.returned (.int .i64 (i':Int))∧St w' r Fv g cap b n T' M' c∧Hole lt ok n T' i'∧Pl n T' i' k0 M' A∧M' k0=M k0 ∧
   (0<i'→lt v (T' (par i')).2=false)∧a≤30∧C (m+a) w'∧Only w w' (dom g b S):=by
 have hSr:¬ S r:=fun q=>(hS r q).1 rfl;have hSg:¬ S g:=fun q=>(hS g q).2.1 rfl;have hSb:¬ S b:=fun q=>(hS b q).2.2 rfl;have hin:=ho.lt_n
 have hnH:¬ dom g b S w.heap.size:=by
  have hg1:=h.row.lt;have hb1:=h.mp.lt;rintro (q | q | q)
  ·omega
  ·omega
  ·have:=hSw _ q;omega
 go_enter Tryz.func156,Tryz.ntmps156
 go_wp2
 go_loopg [1] i (fun gk vi wr=>∃ (T':Nat→K×V) (M':K→Option Nat) (a:Nat),vi=.int .i64 (gk:Int)∧St wr r Fv g cap b n T' M' c∧Hole lt ok n T' gk∧Pl n T' gk k0 M' A∧Hid (M' k0=M k0)∧C (m+a) wr∧Hid (2 ^ a*(gk+1)≤i+1)∧Only w wr (dom g b S)∧Hid (wr.heap[w.heap.size]?=some (.cells #[.int .i64 v.1,.int .i64 v.2.1,.int .i64 v.2.2] 107)))
 case atStart=>exact ⟨T,M,0,rfl,h.kept (Only.alloc (Only.refl w (fun _=>False)) _) (fun q=>q) (fun q=>q) (fun q=>q),ho,hp,Lib.hid rfl,L.keep w _ m (fun _=>False) hC (Only.alloc (Only.refl w (fun _=>False)) _) (fun _ _ q=>q),Lib.hid (by omega),(Only.refl w _).alloc _,Lib.hid (heap_alloc_new w _)⟩
 case round =>
  obtain ⟨T',M',a,rfl,h',ho',hp',HM,hC',HA,hO,HB⟩:=hrel;have hgn:=ho'.lt_n
  rcases Nat.eq_zero_or_pos gk with hz | hz
  ·subst hz
   go_wp2_with fail
   go_ret
   exact ⟨T',M',0,a,rfl,h',ho',hp',HM.out,fun q=>absurd q (by omega),by have:=pow_le30 (two_pow_le HA.out) (by omega);omega,hC',hO⟩
  ·obtain ⟨u,hu⟩:∃ u,u=par gk:=⟨_,rfl⟩
   have hug:u<gk:=by rw [hu];exact par_lt hz
   have hun:u<n:=by omega
   have hzi:(0:Int)<(gk:Int):=by omega
   have hq:Int.tdiv ((gk:Int)-1) 2=(u:Int):=by rw [hu,Int.tdiv_eq_ediv_of_nonneg (by omega)];unfold par;omega
   have huni:(u:Int)<(n:Int):=by omega
   have hgi:(gk:Int)<1073741824:=by omega
   have hoku:=ho'.okV u hun (by omega)
   obtain ⟨⟨ku,vu⟩,hTu⟩:∃ x,T' u=x:=⟨_,rfl⟩;rw [hTu] at hoku;have c1:=h'.c1;have x1:wr.cell? ⟨g,u*5+2,none⟩=some (.int .i64 vu.1):=h'.row.cell (c:=2) hun (by rw [hTu];rfl) rfl
   have x2:wr.cell? ⟨g,u*5+3,none⟩=some (.int .i64 vu.2.1):=h'.row.cell (c:=3) hun (by rw [hTu];rfl) rfl
   have x3:wr.cell? ⟨g,u*5+4,none⟩=some (.int .i64 vu.2.2):=h'.row.cell (c:=4) hun (by rw [hTu];rfl) rfl
   have hkey:=h'.keys u hun;rw [hTu] at hkey;have ha30:a<30:=pow_le30 (two_pow_le HA.out) (by omega)
   have hcall:=L.call wr.drew (m+a) v vu h'.c0 (L.keep wr wr.drew (m+a) (fun _=>False) hC' ((Only.refl wr _).drewN 1) (fun _ _ q=>q)) (by omega) hv hoku
   have z0:=cell_of_row _ _ 0 _ _ _ HB.out;have z1:=cell_of_row _ _ 1 _ _ _ HB.out;have z2:=cell_of_row _ _ 2 _ _ _ HB.out;have HU:=Lib.hid hu;have HTU:=Lib.hid hTu;have ha1:a+1<30:=pow_le30 (two_pow_le (two_pow_step HA.out hz)) (by omega)
   clear hu hTu
   cases hlt:lt v vu with
   | false =>
    rw [hlt] at hcall;have HLT:=Lib.hid hlt;clear hlt;go_wp2_with fail
    go_still_tail 10,(by kernel_rfl)
    change wpList _ _ _ _ _ wr.drew;have hwd:Only wr wr.drew S:=(Only.refl wr _).drewN 1;clear z0 z1 z2;generalize wr.drew=wd at hcall hwd ⊢;go_wp2_with fail
    refine hcall.mono ?_;rintro e w1 ⟨rfl,hC1,ho1⟩;have ho1:=hwd.tr ho1;have HB1:=ho1.blk (fun q=>hnH (Or.inr (Or.inr q))) HB.out;clear hcall;have h1:=h'.kept ho1 hSr hSg hSb;clear c1 x1;clear x2 x3;go_wp2_with fail
    go_ret
    refine ⟨T',M',gk,a+1,rfl,h1,ho',hp',HM.out,fun _=>?_,by omega,hC1,hO.trans ho1 (fun j q=>Or.inl (Or.inr (Or.inr q)))⟩
    rw [←HU.out,HTU.out];exact HLT.out
   | true =>
    rw [hlt] at hcall;have HLT:=Lib.hid hlt;clear hlt;go_wp2_with fail
    go_still_tail 10,(by kernel_rfl)
    change wpList _ _ _ _ _ wr.drew;have hwd:Only wr wr.drew S:=(Only.refl wr _).drewN 1;clear z0 z1 z2;generalize wr.drew=wd at hcall hwd ⊢;go_wp2_with fail
    refine hcall.mono ?_;rintro e w1 ⟨rfl,hC1,ho1⟩;have ho1:=hwd.tr ho1;have HB1:=ho1.blk (fun q=>hnH (Or.inr (Or.inr q))) HB.out;clear hcall;have h1:=h'.kept ho1 hSr hSg hSb;have hO1:=hO.trans ho1 (fun j q=>Or.inl (Or.inr (Or.inr q)));clear c1 x1;clear x2 x3;have c1:=h1.c1;have x0:w1.cell? ⟨g,u*5,none⟩=some (.int .i64 ku.1):=h1.row.cell (c:=0) hun (by rw [HTU.out];rfl) rfl
    have xk:w1.cell? ⟨g,u*5+1,none⟩=some (.int .i64 ku.2):=h1.row.cell (c:=1) hun (by rw [HTU.out];rfl) rfl
    have x1:w1.cell? ⟨g,u*5+2,none⟩=some (.int .i64 vu.1):=h1.row.cell (c:=2) hun (by rw [HTU.out];rfl) rfl
    have x2:w1.cell? ⟨g,u*5+3,none⟩=some (.int .i64 vu.2.1):=h1.row.cell (c:=3) hun (by rw [HTU.out];rfl) rfl
    have x3:w1.cell? ⟨g,u*5+4,none⟩=some (.int .i64 vu.2.2):=h1.row.cell (c:=4) hun (by rw [HTU.out];rfl) rfl
    have hMk:M' ku=some u:=(hp'.at_ ku (by have:=hp'.nk u hun (by omega);rw [HTU.out] at this;exact this) u).2 ⟨hun,by omega,by rw [HTU.out]⟩
    have hku:ku≠k0:=by have:=hp'.nk u hun (by omega);rw [HTU.out] at this;exact this
    have hput:=put_any r Fv g cap b n T' M' c gk ku vu w1 h1 hgn hkey hc c (by rw [hMk];rfl)
    have HMK:=Lib.hid hMk;clear hMk;go_wp2_with fail
    refine hput.mono ?_;rintro e w2 ⟨rfl,h2,ho2⟩;clear hput c1 x0 xk x1;clear x2 x3;have hC2:=L.keep w1 w2 _ _ hC1 ho2 (fun j q q'=>by rcases q' with q' | q';exact (hS j q).2.1 q';exact (hS j q).2.2 q')
    have HB2:=ho2.blk (fun q=>hnH (q.elim Or.inl (fun q=>Or.inr (Or.inl q)))) HB1;have hO2:=hO1.trans ho2 (fun j q=>Or.inl (q.elim (fun q=>Or.inl q) (fun q=>Or.inr (Or.inl q))));have hH2:=ho'.up odr hz;have hP2:=hp'.move hgn hun (by omega)
    rw [←HU.out] at hH2;rw [HTU.out] at hH2 hP2;go_wp2_with fail
    go_roundg u
    case measure=>exact hug
    case rel =>
     refine ⟨_,_,a+1,by go_num,h2,hH2,hP2,Lib.hid ?_,hC2,Lib.hid ?_,hO2,Lib.hid HB2⟩
     ·rw [updZ_ne _ _ (fun q=>hku q.symm)];exact HM.out
     ·rw [HU.out];exact two_pow_step HA.out hz
theorem sink_any {r:Nat} {Fv:Value} {S:Nat→Prop} {C:Nat→World→Prop} (L:Less r Fv S C) (g cap b n:Nat) (T:Nat→K×V) (M:K→Option Nat) (c:Nat) (i:Nat) (k0:K) (A:K→Option V) (v:V) (w:World)
  (h:St w r Fv g cap b n T M c) (ho:Hole lt ok n T i) (hp:Pl n T i k0 M A) (hup:0<i→lt v (T (par i)).2=false) (hv:ok v) (hn:n<1073741824) (hc:c<maxLen) (m:Nat) (hm:m<2305843009213694000) (hC:C m w) (hS:∀ j,S j→j≠r∧j≠g∧j≠b) (hSw:∀ j,S j→j<w.heap.size) :
  Calls Tryz.prog 157 #[.pointer (some ⟨r,0,none⟩),.int .i64 (i:Int),(.agg #[.int .i64 v.1,.int .i64 v.2.1,.int .i64 v.2.2])] w fun e w'=>∃ (T':Nat→K×V) (M':K→Option Nat) (i' a:Nat),e=.returned (.int .i64 (i':Int))∧St w' r Fv g cap b n T' M' c∧Hole lt ok n T' i'∧Pl n T' i' k0 M' A∧M' k0=M k0 ∧
   (0<i'→lt v (T' (par i')).2=false)∧(∀ j,0<j→j<n→par j=i'→lt (T' j).2 v=false)∧a≤60∧C (m+a) w'∧Only w w' (dom g b S):=by
 have hSr:¬ S r:=fun q=>(hS r q).1 rfl;have hSg:¬ S g:=fun q=>(hS g q).2.1 rfl;have hSb:¬ S b:=fun q=>(hS b q).2.2 rfl;have hin:=ho.lt_n
 have hnH:¬ dom g b S w.heap.size:=by
  have hg1:=h.row.lt;have hb1:=h.mp.lt;rintro (q | q | q)
  ·omega
  ·omega
  ·have:=hSw _ q;omega
 go_enter Tryz.func157,Tryz.ntmps157
 go_wp2
 go_loopg [1] (n-i) (fun gk vi wr=>∃ (T':Nat→K×V) (M':K→Option Nat) (i' t a:Nat),vi=.int .i64 (i':Int)∧i'+gk=n∧St wr r Fv g cap b n T' M' c∧Hole lt ok n T' i'∧Pl n T' i' k0 M' A∧Hid (M' k0=M k0)∧Hid (0<i'→lt v (T' (par i')).2=false)∧C (m+a) wr∧a≤2*t∧Hid (2 ^ t≤i'+1)∧Only w wr (dom g b S)∧Hid (wr.heap[w.heap.size]?=some (.cells #[.int .i64 v.1,.int .i64 v.2.1,.int .i64 v.2.2] 107)))
 case atStart=>exact ⟨T,M,i,0,0,rfl,by omega,h.kept (Only.alloc (Only.refl w (fun _=>False)) _) (fun q=>q) (fun q=>q) (fun q=>q),ho,hp,Lib.hid rfl,Lib.hid hup,L.keep w _ m (fun _=>False) hC (Only.alloc (Only.refl w (fun _=>False)) _) (fun _ _ q=>q),by omega,Lib.hid (by omega),(Only.refl w _).alloc _,Lib.hid (heap_alloc_new w _)⟩
 case round =>
  obtain ⟨T',M',i',t,a,rfl,hgk,h',ho',hp',HM,HUP,hC',ha,HT,hO,HB⟩:=hrel;have hgn:=ho'.lt_n;have HGK:=Lib.hid hgk;clear hgk;have ht30:t<30:=pow_le30 HT.out (by omega)
  have hii:(i':Int)<1073741824:=by omega
  have c1:=h'.c1
  by_cases hlt0:2*i'+1<n
  ·have hdi:decide (2*(i':Int)+1<(n:Int))=true:=by simp;omega
   have ht31:t+1<30:=pow_le30 (m:=n) (by rw [Nat.pow_succ];have:=HT.out;omega) (by omega)
   have hchild:=child_any L g cap b n T' M' c i' wr h' ho' hlt0 hn (m+a) (by omega) hC'
   go_wp2_with fail
   refine hchild.mono ?_;rintro e w0 ⟨ch,a1,rfl,hch0,hchn,hpar,hmin,ha1,hC0,ho0⟩;clear hchild c1;have h0:=h'.kept ho0 hSr hSg hSb;have hO0:=hO.trans ho0 (fun j q=>Or.inl (Or.inr (Or.inr q)));have hci:ch≠i':=by have:=par_lt hch0;omega
   have hokc:=ho'.okV ch hchn hci;obtain ⟨⟨ku,vu⟩,hTu⟩:∃ x,T' ch=x:=⟨_,rfl⟩;rw [hTu] at hokc hmin;have hchi:(ch:Int)<(n:Int):=by omega
   have hkey:=h0.keys ch hchn;rw [hTu] at hkey;have c1:=h0.c1;have x1:w0.cell? ⟨g,ch*5+2,none⟩=some (.int .i64 vu.1):=h0.row.cell (c:=2) hchn (by rw [hTu];rfl) rfl
   have x2:w0.cell? ⟨g,ch*5+3,none⟩=some (.int .i64 vu.2.1):=h0.row.cell (c:=3) hchn (by rw [hTu];rfl) rfl
   have x3:w0.cell? ⟨g,ch*5+4,none⟩=some (.int .i64 vu.2.2):=h0.row.cell (c:=4) hchn (by rw [hTu];rfl) rfl
   have hcall:=L.call w0.drew (m+a+a1) vu v h0.c0 (L.keep w0 w0.drew (m+a+a1) (fun _=>False) hC0 ((Only.refl w0 _).drewN 1) (fun _ _ q=>q)) (by omega) hokc hv
   have HB0:=ho0.blk (fun q=>hnH (Or.inr (Or.inr q))) HB.out;have z0:=cell_of_row _ _ 0 _ _ _ HB0;have z1:=cell_of_row _ _ 1 _ _ _ HB0;have z2:=cell_of_row _ _ 2 _ _ _ HB0;have HTU:=Lib.hid hTu;have HPAR:=Lib.hid hpar;clear hTu hpar
   cases hlt:lt vu v with
   | false =>
    rw [hlt] at hcall;have HLT:=Lib.hid hlt;clear hlt;go_wp2_with fail
    go_still_tail 10,(by kernel_rfl)
    change wpList _ _ _ _ _ w0.drew;have hwd:Only w0 w0.drew S:=(Only.refl w0 _).drewN 1;clear z0 z1 z2;generalize w0.drew=wd at hcall hwd ⊢;go_wp2_with fail
    refine hcall.mono ?_;rintro e w1 ⟨rfl,hC1,ho1⟩;have ho1:=hwd.tr ho1;have HB1:=ho1.blk (fun q=>hnH (Or.inr (Or.inr q))) HB0;clear hcall c1 x1;clear x2 x3;have h1:=h0.kept ho1 hSr hSg hSb;have hC2:C (m+(a+a1+1)) w1:=by rw [←Nat.add_assoc,←Nat.add_assoc];exact hC1
    go_wp2_with fail
    go_ret
    refine ⟨T',M',i',a+a1+1,rfl,h1,ho',hp',HM.out,HUP.out,?_,by omega,hC2,hO0.trans ho1 (fun j q=>Or.inl (Or.inr (Or.inr q)))⟩
    intro j hj0 hjn hjp;exact odr.ntr _ _ _ (ho'.okV j hjn (by have:=par_lt hj0;omega)) hokc hv (hmin j hj0 hjn hjp) HLT.out
   | true =>
    rw [hlt] at hcall;have HLT:=Lib.hid hlt;clear hlt;go_wp2_with fail
    go_still_tail 10,(by kernel_rfl)
    change wpList _ _ _ _ _ w0.drew;have hwd:Only w0 w0.drew S:=(Only.refl w0 _).drewN 1;clear z0 z1 z2;generalize w0.drew=wd at hcall hwd ⊢;go_wp2_with fail
    refine hcall.mono ?_;rintro e w1 ⟨rfl,hC1,ho1⟩;have ho1:=hwd.tr ho1;have HB1:=ho1.blk (fun q=>hnH (Or.inr (Or.inr q))) HB0;clear hcall c1 x1;clear x2 x3;have h1:=h0.kept ho1 hSr hSg hSb;have hO1:=hO0.trans ho1 (fun j q=>Or.inl (Or.inr (Or.inr q)));have c1:=h1.c1;have x0:w1.cell? ⟨g,ch*5,none⟩=some (.int .i64 ku.1):=h1.row.cell (c:=0) hchn (by rw [HTU.out];rfl) rfl
    have xk:w1.cell? ⟨g,ch*5+1,none⟩=some (.int .i64 ku.2):=h1.row.cell (c:=1) hchn (by rw [HTU.out];rfl) rfl
    have x1:w1.cell? ⟨g,ch*5+2,none⟩=some (.int .i64 vu.1):=h1.row.cell (c:=2) hchn (by rw [HTU.out];rfl) rfl
    have x2:w1.cell? ⟨g,ch*5+3,none⟩=some (.int .i64 vu.2.1):=h1.row.cell (c:=3) hchn (by rw [HTU.out];rfl) rfl
    have x3:w1.cell? ⟨g,ch*5+4,none⟩=some (.int .i64 vu.2.2):=h1.row.cell (c:=4) hchn (by rw [HTU.out];rfl) rfl
    have hku:ku≠k0:=by have:=hp'.nk ch hchn hci;rw [HTU.out] at this;exact this
    have hMk:M' ku=some ch:=(hp'.at_ ku hku ch).2 ⟨hchn,hci,by rw [HTU.out]⟩
    have hput:=put_any r Fv g cap b n T' M' c i' ku vu w1 h1 hgn hkey hc c (by rw [hMk];rfl)
    have HMK:=Lib.hid hMk;clear hMk;go_wp2_with fail
    refine hput.mono ?_;rintro e w2 ⟨rfl,h2,ho2⟩;clear hput c1 x0 xk x1;clear x2 x3;have hC2:=L.keep w1 w2 _ _ hC1 ho2 (fun j q q'=>by rcases q' with q' | q';exact (hS j q).2.1 q';exact (hS j q).2.2 q')
    have hC3:C (m+(a+a1+1)) w2:=by rw [←Nat.add_assoc,←Nat.add_assoc];exact hC2
    have HB2:=ho2.blk (fun q=>hnH (q.elim Or.inl (fun q=>Or.inr (Or.inl q)))) HB1;have hO2:=hO1.trans ho2 (fun j q=>Or.inl (q.elim (fun q=>Or.inl q) (fun q=>Or.inr (Or.inl q))));have hH2:=ho'.down hch0 hchn HPAR.out (by rw [HTU.out];exact hmin)
    have hP2:=hp'.move hgn hchn hci;rw [HTU.out] at hH2 hP2;have hcase:=par_cases hch0 HPAR.out;go_wp2_with fail
    go_roundg (n-ch)
    case measure=>have:=HGK.out;omega
    case rel =>
     refine ⟨_,_,ch,t+1,a+a1+1,by go_num,by omega,h2,hH2,hP2,Lib.hid ?_,Lib.hid ?_,hC3,by omega,Lib.hid ?_,hO2,Lib.hid HB2⟩
     ·rw [updZ_ne _ _ (fun q=>hku q.symm)];exact HM.out
     ·intro _
      rw [HPAR.out,upd_same];exact odr.asym _ _ hokc hv HLT.out
     ·have:=HT.out;rw [Nat.pow_succ];omega
  ·have hdi:decide (2*(i':Int)+1<(n:Int))=false:=by simp;omega
   go_wp2_with fail
   go_ret
   refine ⟨T',M',i',a,rfl,h',ho',hp',HM.out,HUP.out,?_,by omega,hC',hO⟩
   intro j hj0 hjn hjp
   rcases par_cases hj0 hjp with q | q <;> omega
theorem settle_any {r:Nat} {Fv:Value} {S:Nat→Prop} {C:Nat→World→Prop} (L:Less r Fv S C) (g cap b n:Nat) (T:Nat→K×V) (M:K→Option Nat) (c:Nat) (i:Nat) (k:K) (A:K→Option V) (v:V) (w:World)
  (h:St w r Fv g cap b n T M c) (ho:Hole lt ok n T i) (hp:Pl n T i k M A) (hv:ok v) (hk:kw k) (hn:n<1073741824) (hc:c<maxLen) (m:Nat) (hm:m<2305843009213693952) (hC:C m w) (hS:∀ j,S j→j≠r∧j≠g∧j≠b) (hSw:∀ j,S j→j<w.heap.size)
  (c':Nat) (hc':c'=if (M k).isSome then c else c+1) :
  Calls Tryz.prog 144 #[.pointer (some ⟨r,0,none⟩),.int .i64 (i:Int),.agg #[.int .i64 k.1,.int .i64 k.2,.int .i64 v.1,.int .i64 v.2.1,.int .i64 v.2.2]] w fun e w'=>e=.returned (.tuple #[])∧∃ (T':Nat→K×V) (M':K→Option Nat) (a:Nat),St w' r Fv g cap b n T' M' c'∧Full lt ok n T' M' (updZ A k (some v))∧a≤90∧C (m+a) w'∧Only w w' (dom g b S):=by
 have HC:=Lib.hid hc';clear hc';have hr1:=lt_of_row h.blk;have hg1:=h.row.lt;have hb1:=h.mp.lt;have hOw:Only w (w.alloc (.cells #[.int .i64 k.1,.int .i64 k.2,.int .i64 v.1,.int .i64 v.2.1,.int .i64 v.2.2] 139)) (dom g b S):=(Only.refl w _).alloc _;have h1:=h.kept (Only.alloc (Only.refl w (fun _=>False)) (.cells #[.int .i64 k.1,.int .i64 k.2,.int .i64 v.1,.int .i64 v.2.1,.int .i64 v.2.2] 139)) (fun q=>q) (fun q=>q) (fun q=>q);have hC1:=L.keep w _ m (fun _=>False) hC (Only.alloc (Only.refl w (fun _=>False)) (.cells #[.int .i64 k.1,.int .i64 k.2,.int .i64 v.1,.int .i64 v.2.1,.int .i64 v.2.2] 139)) (fun _ _ q=>q);have hH:(w.alloc (.cells #[.int .i64 k.1,.int .i64 k.2,.int .i64 v.1,.int .i64 v.2.1,.int .i64 v.2.2] 139)).heap[w.heap.size]?=some (.cells #[.int .i64 k.1,.int .i64 k.2,.int .i64 v.1,.int .i64 v.2.1,.int .i64 v.2.2] 139):=heap_alloc_new w _
 have hnH:¬ dom g b S w.heap.size:=by
  rintro (q | q | q)
  ·omega
  ·omega
  ·have:=hSw _ q;omega
 go_enter Tryz.func144,Tryz.ntmps144
 have hSw1:∀ j,S j→j<(w.alloc (.cells #[.int .i64 k.1,.int .i64 k.2,.int .i64 v.1,.int .i64 v.2.1,.int .i64 v.2.2] 139)).heap.size:=fun j q=>Nat.lt_of_lt_of_le (hSw j q) hOw.size;have hrise:=rise_any L g cap b n T M c i k A v _ h1 ho hp hv hn hc m hm hC1 hS hSw1;go_wp2_with fail
 refine hrise.mono ?_;rintro e w2 ⟨T2,M2,i2,a2,rfl,h2,ho2,hp2,hM2,hup2,ha2,hC2,hO2⟩;have hH2:=hO2.blk hnH hH;have hOw2:=hOw.tr hO2;have HM2:=Lib.hid hM2;clear hrise hM2;have e1:=cell_of_row _ _ 1 _ _ _ hH2;have e2:=cell_of_row _ _ 2 _ _ _ hH2;have e3:=cell_of_row _ _ 3 _ _ _ hH2;have e4:=cell_of_row _ _ 4 _ _ _ hH2;have hsink:=sink_any L g cap b n T2 M2 c i2 k A v w2 h2 ho2 hp2 hup2 hv hn hc (m+a2) (by omega) hC2 hS (fun j q=>Nat.lt_of_lt_of_le (hSw j q) hOw2.size)
 go_wp2_with fail
 refine hsink.mono ?_;rintro e w3 ⟨T3,M3,i3,a3,rfl,h3,ho3,hp3,hM3,hup3,hdn3,ha3,hC3,hO3⟩;have hH3:=hO3.blk hnH hH2;have hOw3:=hOw2.tr hO3;have HM3:=Lib.hid hM3;clear hsink e1 hM3;clear e2 e3;clear e4;have e0:=cell_of_row _ _ 0 _ _ _ hH3;have e1:=cell_of_row _ _ 1 _ _ _ hH3;have e2:=cell_of_row _ _ 2 _ _ _ hH3;have e3:=cell_of_row _ _ 3 _ _ _ hH3;have e4:=cell_of_row _ _ 4 _ _ _ hH3;have hput:=put_any r Fv g cap b n T3 M3 c i3 k v w3 h3 ho3.lt_n hk hc c' (by rw [HC.out,HM3.out,HM2.out])
 go_wp2_with fail
 refine hput.mono ?_;rintro e w4 ⟨rfl,h4,ho4⟩;clear hput e0 e1;clear e2 e3;clear e4;go_wp2_with fail
 go_end0
 refine ⟨rfl,_,_,a2+a3,h4,ho3.fill hp3 hv hup3 hdn3,by omega,?_,hOw3.trans ho4 (fun j q=>Or.inl (q.elim (fun q=>Or.inl q) (fun q=>Or.inr (Or.inl q))))⟩
 rw [←Nat.add_assoc];exact L.keep w3 w4 _ _ hC3 ho4 (fun j q q'=>by rcases q' with q' | q';exact (hS j q).2.1 q';exact (hS j q).2.2 q')
def MpO (w:World) (B:Option Nat) (M:K→Option Nat) (n:Nat):Prop :=
 (B=none∧n=0∧∀ k,M k=none)∨∃ b,B=some b∧Mp Tryz.prog 77 w b (fun k=>(M k).map (fun j:Nat=>Value.int .i64 (j:Int))) n
theorem MpO.kept {w w':World} {B:Option Nat} {M:K→Option Nat} {n:Nat} {S:Nat→Prop} (h:MpO w B M n) (ho:Only w w' S) (hb:∀ b,B=some b→¬ S b):MpO w' B M n:=by
 rcases h with h | ⟨b,h1,h2⟩
 ·exact Or.inl h
 ·exact Or.inr ⟨b,h1,h2.kept ho (hb b h1)⟩
structure Hp (w:World) (r:Nat) (Fv:Value) (G B:Option Nat) (n:Nat) (A:K→Option V) (sv:Value) (T:Nat→K×V) (M:K→Option Nat):Prop where
 blk:w.heap[r]?=some (.cells #[Fv,sv,.map B] 137 (0,0))
 its:Its ic 5 139 w sv G n T
 mp:MpO w B M n
 full:Full lt ok n T M A
 keys:∀ j,j<n→kw (T j).1
 rg:∀ g,G=some g→r≠g
 rb:∀ b,B=some b→r≠b
 gb:∀ g b,G=some g→B=some b→g≠b
def Ob (w:World) (r:Nat) (Fv:Value) (n:Nat) (A:K→Option V) (X:Nat→Prop):Prop :=
 ∃ G B sv T M,Hp w r Fv G B n A sv T M∧X r∧(∀ g,G=some g→X g)∧(∀ b,B=some b→X b)∧∀ j,X j→j<w.heap.size
theorem Ob.kept {w w':World} {r:Nat} {Fv:Value} {n:Nat} {A:K→Option V} {X S:Nat→Prop} (h:Ob w r Fv n A X) (ho:Only w w' S) (hd:∀ j,X j→¬ S j):Ob w' r Fv n A X:=by
 obtain ⟨G,B,sv,T,M,h,h1,h2,h3,h4⟩:=h;exact ⟨G,B,sv,T,M,⟨ho.blk (hd r h1) h.blk,h.its.kept ho (fun g hg=>hd g (h2 g hg)),h.mp.kept ho (fun b hb=>hd b (h3 b hb)),h.full,h.keys,h.rg,h.rb,h.gb⟩,h1,h2,h3,fun j hj=>Nat.lt_of_lt_of_le (h4 j hj) ho.size⟩
theorem Ob.lt {w:World} {r:Nat} {Fv:Value} {n:Nat} {A:K→Option V} {X:Nat→Prop} (h:Ob w r Fv n A X):∀ j,X j→j<w.heap.size:=by
 obtain ⟨G,B,sv,T,M,h,h1,h2,h3,h4⟩:=h;exact h4
theorem Ob.okV {w:World} {r:Nat} {Fv:Value} {n:Nat} {A:K→Option V} {X:Nat→Prop} (h:Ob w r Fv n A X) {k:K} {v:V} (hk:A k=some v):ok v∧kw k:=by
 obtain ⟨G,B,sv,T,M,h,_⟩:=h;obtain ⟨j,h1,h2⟩:=(h.full.con _ _).1 hk;have a:=h.full.okV j h1;have b:=h.keys j h1;rw [h2] at a b;exact ⟨a,b⟩
theorem Ob.zero {w:World} {r:Nat} {Fv:Value} {A:K→Option V} {X:Nat→Prop} (h:Ob w r Fv 0 A X) (k:K):A k=none:=by
 obtain ⟨G,B,sv,T,M,h,_⟩:=h;exact h.full.zero k
theorem Ob.some_ {w:World} {r:Nat} {Fv:Value} {n:Nat} {A:K→Option V} {X:Nat→Prop} (h:Ob w r Fv n A X) (hn:0<n):∃ k v,A k=some v:=by
 obtain ⟨G,B,sv,T,M,h,_⟩:=h;exact ⟨_,_,(h.full.mn odr hn).1⟩
theorem Ob.pos {w:World} {r:Nat} {Fv:Value} {n:Nat} {A:K→Option V} {X:Nat→Prop} (h:Ob w r Fv n A X) {k:K} {v:V} (hk:A k=some v):0<n:=by
 obtain ⟨G,B,sv,T,M,h,_⟩:=h;obtain ⟨j,h1,_⟩:=(h.full.con _ _).1 hk;omega
theorem new_any (fn:Fn) (fi ca:Array Value) (w:World) :
  Calls Tryz.prog 59 #[.func fn fi ca] w fun e w'=>e=.returned (.pointer (some ⟨w.heap.size,0,none⟩))∧Ob w' w.heap.size (.func fn fi ca) 0 (fun _=>none) (fun j=>j=w.heap.size)∧Below w.heap.size w w':=by
 go_enter Tryz.func59,Tryz.ntmps59
 go_wp2
 go_ret
 refine ⟨rfl,⟨none,none,.slice none 0 0,fun _=>((0,0),(0,0,0)),fun _=>none,⟨heap_alloc_new w _,Or.inl ⟨rfl,rfl,rfl⟩,Or.inl ⟨rfl,rfl,fun _=>rfl⟩,Full.empty _,fun j hj=>absurd hj (by omega),(fun _ q=>nomatch q),(fun _ q=>nomatch q),(fun _ _ q=>nomatch q)⟩,rfl,(fun _ q=>nomatch q),(fun _ q=>nomatch q),fun j q=>?_⟩,(Below.refl _ _).alloc (Nat.le_refl _) _⟩
 rw [q];exact lt_of_row (heap_alloc_new w _)
end Go.Proofs.YthdengocipfgiaaGreat.W.HT
