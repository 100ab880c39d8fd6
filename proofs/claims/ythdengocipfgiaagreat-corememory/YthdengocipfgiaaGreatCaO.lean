import Derived.Test.YthdengocipfgiaaGreatCaN
/- A part of what core's laws stand on. -/
set_option linter.unusedVariables false
set_option linter.unusedSimpArgs false
set_option maxRecDepth 100000
set_option maxHeartbeats 3200000
namespace Go.Proofs.YthdengocipfgiaaGreat.W
open Go.RowKit
abbrev zs3:Obj:=.cells #[.int .i64 0,.int .i64 0,.int .i64 0] 141
structure PostA (w3 w':World) (g l k o lim:Nat):Prop where
 b:Below w3.heap.size w3 w'
 c1:w'.cell? ⟨g,1,none⟩=some (.int .i64 (o:Int))
 cl:w'.cell? ⟨l,k,none⟩=some (.int .i64 (lim:Int))
theorem PostA.more {w3 w':World} {g l k o lim:Nat} (h:PostA w3 w' g l k o lim):(w'.alloc zs3).cell? ⟨g,1,none⟩=some (.int .i64 (o:Int))∧(w'.alloc zs3).cell? ⟨l,k,none⟩=some (.int .i64 (lim:Int)) :=
 have ba:Below w'.heap.size w' (w'.alloc zs3):=(Below.refl _ _).alloc (Nat.le_refl _) _
 ⟨(Only.of_below (S:=fun _=>False) ba).cell (fun q=>q) h.c1,(Only.of_below (S:=fun _=>False) ba).cell (fun q=>q) h.cl⟩
structure PostB (w3 w':World) (g l k o lim:Nat):Prop where
 a:PostA w3 w' g l k o lim
 n0:w'.cell? ⟨w3.heap.size,0,none⟩=some (.int .i64 0)
 n1:w'.cell? ⟨w3.heap.size,1,none⟩=some (.int .i64 0)
 n2:w'.cell? ⟨w3.heap.size,2,none⟩=some (.int .i64 0)
 z0:w'.frozen? ⟨w3.heap.size,0,none⟩=false
 z1:w'.frozen? ⟨w3.heap.size,1,none⟩=false
 z2:w'.frozen? ⟨w3.heap.size,2,none⟩=false
 row:w'.heap[w3.heap.size]?=some (.cells [.int .i64 0,.int .i64 0,.int .i64 0].toArray 141 (0,0))
theorem sum_then (l:Nat) (A:Int→Option Nat) (F:Int→Option Fn) (w3:World) (g k o lim p q u:Nat) (h:Lg w3 l A F) (c1:w3.cell? ⟨g,1,none⟩=some (.int .i64 (o:Int))) (cl:w3.cell? ⟨l,k,none⟩=some (.int .i64 (lim:Int))) (hp:sR F (o:Int)=p) (hq:sB F (o:Int)=q) (hu:sO F (o:Int)=u) :
  Calls Tryz.prog 61 #[.pointer (some ⟨l,0,none⟩),.int .i64 (o:Int)] (w3.alloc zs3).drew fun e w'=>e=.returned (Sums p q u)∧PostB w3 w' g l k o lim:=by
 have ba:Below w3.heap.size w3 (w3.alloc zs3).drew:=below_drewN ((Below.refl _ _).alloc (Nat.le_refl _) _) 1;refine (l_sum l A F (o:Int) (w3.alloc zs3).drew (h.keep ba h.lt)).mono ?_;rintro e w' ⟨rfl,hb⟩;rw [hp,hq,hu];have hb':Below w3.heap.size w3 w':=ba.trans (hb.mono ba.size)
 have hr:w'.heap[w3.heap.size]?=some (.cells [.int .i64 0,.int .i64 0,.int .i64 0].toArray 141 (0,0)):=by
  rw [hb.block _ (show w3.heap.size<(w3.alloc zs3).heap.size by simp)];exact heap_alloc_new _ _
 exact ⟨rfl,⟨hb',(Only.of_below (S:=fun _=>False) hb').cell (fun q=>q) c1,(Only.of_below (S:=fun _=>False) hb').cell (fun q=>q) cl⟩,cellL hr 0 _ rfl,cellL hr 1 _ rfl,cellL hr 2 _ rfl,frozen_of_row _ _ _ _ _ hr,frozen_of_row _ _ _ _ _ hr,frozen_of_row _ _ _ _ _ hr,hr⟩
abbrev SAsk (w3:World) (g l k o m:Nat) (w':World):Prop:=w'.cell? ⟨g,1,none⟩=some (.int .i64 (o:Int))∧w'.cell? ⟨l,k,none⟩=some (.int .i64 (m:Int))∧Below w3.heap.size w3 w'
theorem SAsk.below {w3 w' w'':World} {g l k o m:Nat} (hS:SAsk w3 g l k o m w') (hb:Below w'.heap.size w' w''):SAsk w3 g l k o m w'' :=
 ⟨(Only.of_below (S:=fun _=>False) hb).cell (fun q=>q) hS.1,(Only.of_below (S:=fun _=>False) hb).cell (fun q=>q) hS.2.1,hS.2.2.trans (hb.mono hS.2.2.size)⟩
theorem SAsk.alloc {w3 w':World} {g l k o m:Nat} (hS:SAsk w3 g l k o m w') (ob:Obj):SAsk w3 g l k o m (w'.alloc ob):=hS.below ((Below.refl _ _).alloc (Nat.le_refl _) _)
theorem SAsk.st {w3 w':World} {g l k o m:Nat} (hS:SAsk w3 g l k o m w') (hg:g<w3.heap.size) (hl:l<w3.heap.size) (v0 v1 v2:Value):SAsk w3 g l k o m (((w'.setCell ⟨w3.heap.size,0,none⟩ v0).setCell ⟨w3.heap.size,1,none⟩ v1).setCell ⟨w3.heap.size,2,none⟩ v2):=by
 have hw:=grown_put (grown_put (grown_set w' 0 w3.heap.size 0 v0) 1 v1) 2 v2;have hO:Only w' (((w'.setCell ⟨w3.heap.size,0,none⟩ v0).setCell ⟨w3.heap.size,1,none⟩ v1).setCell ⟨w3.heap.size,2,none⟩ v2) (fun j=>j=w3.heap.size):=Only.grown hw (Or.inl rfl);exact ⟨hO.cell (fun q=>by simp at q;omega) hS.1,hO.cell (fun q=>by simp at q;omega) hS.2.1,below_row hS.2.2 (Nat.le_refl _) hw hS.2.2.size⟩
def SEnd (w3:World) (s p q u:Nat) (w':World):Prop:=w'.heap[s]?=some (.cells #[.int .i64 (p:Int),.int .i64 (q:Int),.int .i64 (u:Int)] 141 (0,0))∧w3.heap.size≤s
theorem send_alloc (w3 w':World) (p q u:Nat) (h:w3.heap.size≤w'.heap.size):SEnd w3 w'.heap.size p q u (w'.alloc (.cells #[.int .i64 (p:Int),.int .i64 (q:Int),.int .i64 (u:Int)] 141)):=⟨heap_alloc_new _ _,h⟩
theorem send_st (w3 w':World) (p q u:Nat) (h:w'.heap[w3.heap.size]?=some (.cells [.int .i64 0,.int .i64 0,.int .i64 0].toArray 141 (0,0))):SEnd w3 w3.heap.size p q u (((w'.setCell ⟨w3.heap.size,0,none⟩ (.int .i64 (p:Int))).setCell ⟨w3.heap.size,1,none⟩ (.int .i64 (q:Int))).setCell ⟨w3.heap.size,2,none⟩ (.int .i64 (u:Int))) :=
 ⟨set_rowL (set_rowL (set_rowL h 0 _) 1 _) 2 _,Nat.le_refl _⟩
theorem l_ask2 (l:Nat) (A:Int→Option Nat) (F:Int→Option Fn) (x:Int) (w:World) (h:Lg w l A F) (o r b:Nat) (hF:F x=some (o,r,b)) (hrb:¬ (0<r∧r≤b)) :
  Calls Tryz.prog 40 #[.pointer (some ⟨l,0,none⟩),.int .i64 x] w fun e w'=>e=.returned (.tuple #[.int .i64 ((askC A F x).1:Int),.bool (askC A F x).2])∧Below w.heap.size w w':=by
 rw [ask_some hF,if_neg hrb];have H:=Lib.hid h;have hbd:=h.ab.f0 _ _ _ _ hF;obtain ⟨f,rfl⟩:∃ f:Nat,x=(f:Int):=⟨x.toNat,by omega⟩
 have hfi:(f:Int)<64:=by omega
 have ho:o<16:=by omega
 have hoI:(o:Int)<16:=by omega
 have f0:=h.f0 (f:=f) (by omega)
 have f1:=h.f1 (f:=f) (by omega)
 have f2:=h.f2 (f:=f) (by omega)
 have f3:=h.f3 (f:=f) (by omega)
 rw [hF] at f0 f1 f2 f3;have f0':w.cell? ⟨l,32+f*4,none⟩=some (.bool true):=f0;have f1':w.cell? ⟨l,32+f*4+1,none⟩=some (.int .i64 (o:Int)):=f1;have f2':w.cell? ⟨l,32+f*4+2,none⟩=some (.int .i64 (r:Int)):=f2;have f3':w.cell? ⟨l,32+f*4+3,none⟩=some (.int .i64 (b:Int)):=f3;have HF:=Lib.hid hF;have ca:=h.a1 ho
 have hlim:(A (o:Int)).getD 0≤1000:=by
  cases q:A (o:Int) with
  | none=>simp
  | some n=>exact (h.ab.a0 _ _ q).2.2
 have hp1:=h.ab.sR (o:Int);have hq1:=h.ab.sB (o:Int);have hu1:=h.ab.sO (o:Int);obtain ⟨lim,hlm⟩:∃ n,(A (o:Int)).getD 0=n:=⟨_,rfl⟩;obtain ⟨p,hp⟩:∃ p,sR F (o:Int)=p:=⟨_,rfl⟩;obtain ⟨q,hq⟩:∃ q,sB F (o:Int)=q:=⟨_,rfl⟩;obtain ⟨u,hu⟩:∃ u,sO F (o:Int)=u:=⟨_,rfl⟩;rw [hlm] at ca hlim;rw [hp] at hp1;rw [hq] at hq1;rw [hu] at hu1;rw [hlm,hp,hq,hu];have hpI:(p:Int)≤64000:=by omega
 have hlI:(lim:Int)≤1000:=by omega
 have hr0:r=0∨(0<r∧b<r):=by omega
 obtain ⟨an,han⟩:∃ an:Nat×Bool,(if lim≤q∨(r=0∧lim≤u+p) then (2,true) else (0,true))=an:=⟨_,rfl⟩;rw [han];have HAN:=Lib.hid han;clear han;have HC:=Lib.hid ca;have hl:=h.lt;have HP:=Lib.hid hp;have HQ:=Lib.hid hq;have HU:=Lib.hid hu;clear h hF f0 f1 f2 f3 hbd ca hp hq hu hlm hp1 hq1 hu1 hlim hrb
 go_enter Tryz.func40,Tryz.ntmps40
 go_wp2_with fail
 refine (l_has l A F _ _ H.out).mono ?_;rintro e w' ⟨rfl,rfl⟩;rw [HF.out];go_upto_region 4 with (fail)
 have hb3:Below w.heap.size w (w.alloc (.cells #[.bool true,.int .i64 (o:Int),.int .i64 (r:Int),.int .i64 (b:Int)] 99)):=(Below.refl _ _).alloc (Nat.le_refl _) _;have H3:=Lib.hid (H.out.keep hb3 hl);have HC3:=Lib.hid ((Only.of_below (S:=fun _=>False) hb3).cell (fun q=>q) HC.out);have hq3:=heap_alloc_new w (.cells #[.bool true,.int .i64 (o:Int),.int .i64 (r:Int),.int .i64 (b:Int)] 99);obtain ⟨g,hg⟩:∃ g,w.heap.size=g:=⟨_,rfl⟩;rw [hg] at hq3;rw [hg];have HG:=Lib.hid hg;clear hg f0' f1' f2' f3' HC;generalize w.alloc (.cells #[.bool true,.int .i64 (o:Int),.int .i64 (r:Int),.int .i64 (b:Int)] 99)=w3 at hb3 H3 HC3 hq3 ⊢;have y1:=cell_of_row _ _ 1 _ _ _ hq3;have y2:=cell_of_row _ _ 2 _ _ _ hq3;have y3:=cell_of_row _ _ 3 _ _ _ hq3;have y1':w3.cell? ⟨g,1,none⟩=some (.int .i64 (o:Int)):=y1;have y2':w3.cell? ⟨g,2,none⟩=some (.int .i64 (r:Int)):=y2;have hl3:=H3.out.lt;clear hq3
 rcases hr0 with rfl | ⟨hr0,hbr⟩
 ·go_upto_region 6 with (fail)
  have hS0:SAsk w3 g l (o*2+1) o lim w3:=⟨y1',HC3.out,Below.refl _ _⟩;have HS0:=Lib.hid (show SAsk w3 g l (o*2+1) o lim w3.drew from ⟨y1',HC3.out,below_drewN (Below.refl _ _) 1⟩)
  have HSA:Hid (∀ ob,SAsk w3 g l (o*2+1) o lim (w3.alloc ob).drew):=Lib.hid (fun ob=>⟨(hS0.alloc ob).1,(hS0.alloc ob).2.1,below_drewN (hS0.alloc ob).2.2 1⟩);have SB:=Lib.hid (sum_then l A F w3 g (o*2+1) o lim p q u H3.out y1' HC3.out HP.out HQ.out HU.out);have hg3:g<w3.heap.size:=cell_lt y1';have HY2:=Lib.hid y2';clear y1 y2 y3 y1' y2' hS0
  go_region_held3 (fun w'=>w'.cell? ⟨g,1,none⟩=some (.int .i64 (o:Int))∧w'.cell? ⟨l,o*2+1,none⟩=some (.int .i64 (lim:Int))∧Below w3.heap.size w3 w') (first | exact HS0.out | exact sst.out _ _ _ | exact sal.out _ | exact sw.out | exact HSA.out _ | assumption)
   (first
    | (go_at_call 61;refine SB.out.mono ?_;rintro e w' ⟨rfl,PB⟩;have n0:=PB.n0;have n1:=PB.n1;have n2:=PB.n2;have z0:=PB.z0;have z1:=PB.z1;have z2:=PB.z2;have hsw:SAsk w3 g l (o*2+1) o lim w':=⟨PB.a.c1,PB.a.cl,PB.a.b⟩;have sw:=Lib.hid hsw;have sst:=Lib.hid (fun v0 v1 v2=>hsw.st hg3 hl3 v0 v1 v2);clear hsw)
    | (go_at_call 61;refine (l_sum l A F _ _ (H3.out.drewN 1)).mono ?_;rintro e w' ⟨rfl,hbw⟩;rw [HP.out,HQ.out,HU.out];have hsw:SAsk w3 g l (o*2+1) o lim w':=SAsk.below HS0.out hbw;have sw:=Lib.hid hsw;have sal:=Lib.hid (fun ob=>hsw.alloc ob);clear hsw))
  ·have hE:=send_alloc w3 w' p q u sw.out.2.2.size
   have hS:=sal.out (.cells #[.int .i64 (p:Int),.int .i64 (q:Int),.int .i64 (u:Int)] 141);generalize w'.alloc (.cells #[.int .i64 (p:Int),.int .i64 (q:Int),.int .i64 (u:Int)] 141)=wE at hE hS ⊢;obtain ⟨sE,hsE⟩:∃ s,w'.heap.size=s:=⟨_,rfl⟩;rw [hsE] at hE;rw [hsE];clear hsE sal sw hbw;have bE:=hb3.trans (hS.2.2.mono hb3.size);have kr:=(Only.of_below (S:=fun _=>False) hS.2.2).cell (x:=⟨g,2,none⟩) (fun q=>q) HY2.out;clear hS;have e0:=cell_of_row _ _ 0 _ _ _ hE.1;have e1:=cell_of_row _ _ 1 _ _ _ hE.1;have e2:=cell_of_row _ _ 2 _ _ _ hE.1;clear hE
   by_cases hc1:lim≤q
   ·go_wp2_with fail
    go_ret2
    refine ⟨?_,bE⟩;have hA:=HAN.out;rw [if_pos (Or.inl hc1)] at hA;rw [←hA];rfl
   ·by_cases hc2:lim≤u+p
    ·have hc3:decide ((lim:Int)-(p:Int)≤(u:Int))=true:=decide_eq_true (by omega)
     go_wp2_with fail
     go_ret2
     refine ⟨?_,bE⟩;have hA:=HAN.out;rw [if_pos (Or.inr ⟨by trivial,hc2⟩)] at hA
     rw [←hA];rfl
    ·have hc3:decide ((lim:Int)-(p:Int)≤(u:Int))=false:=decide_eq_false (by omega)
     go_wp2_with fail
     go_ret2
     refine ⟨?_,bE⟩;have hA:=HAN.out;rw [if_neg (fun h=>h.elim hc1 (fun h=>hc2 h.2))] at hA;rw [←hA];rfl
  ·have hE:=send_st w3 w' p q u PB.row
   have hS:=sst.out (.int .i64 (p:Int)) (.int .i64 (q:Int)) (.int .i64 (u:Int));clear n0 n1 n2 z0 z1 z2;generalize (((w'.setCell ⟨w3.heap.size,0,none⟩ (.int .i64 (p:Int))).setCell ⟨w3.heap.size,1,none⟩ (.int .i64 (q:Int))).setCell ⟨w3.heap.size,2,none⟩ (.int .i64 (u:Int)))=wE at hE hS ⊢;have bE:=hb3.trans (hS.2.2.mono hb3.size);have kr:=(Only.of_below (S:=fun _=>False) hS.2.2).cell (x:=⟨g,2,none⟩) (fun q=>q) HY2.out;clear sst sw PB hS;obtain ⟨sE,hsE⟩:∃ s,w3.heap.size=s:=⟨_,rfl⟩;rw [hsE] at hE;rw [hsE];clear hsE;have e0:=cell_of_row _ _ 0 _ _ _ hE.1;have e1:=cell_of_row _ _ 1 _ _ _ hE.1;have e2:=cell_of_row _ _ 2 _ _ _ hE.1;clear hE
   by_cases hc1:lim≤q
   ·go_wp2_with fail
    go_ret2
    refine ⟨?_,bE⟩;have hA:=HAN.out;rw [if_pos (Or.inl hc1)] at hA;rw [←hA];rfl
   ·by_cases hc2:lim≤u+p
    ·have hc3:decide ((lim:Int)-(p:Int)≤(u:Int))=true:=decide_eq_true (by omega)
     go_wp2_with fail
     go_ret2
     refine ⟨?_,bE⟩;have hA:=HAN.out;rw [if_pos (Or.inr ⟨by trivial,hc2⟩)] at hA
     rw [←hA];rfl
    ·have hc3:decide ((lim:Int)-(p:Int)≤(u:Int))=false:=decide_eq_false (by omega)
     go_wp2_with fail
     go_ret2
     refine ⟨?_,bE⟩;have hA:=HAN.out;rw [if_neg (fun h=>h.elim hc1 (fun h=>hc2 h.2))] at hA;rw [←hA];rfl
 ·have hr1:((r:Int) == 0)=false:=by simp;omega
  have HR0:=Lib.hid (show ¬ r=0 by omega)
  have hr2:decide ((0:Int)<(r:Int))=true:=decide_eq_true (by omega)
  go_upto_region 6 with (fail)
  have hS0:SAsk w3 g l (o*2+1) o lim w3:=⟨y1',HC3.out,Below.refl _ _⟩;have HS0:=Lib.hid (show SAsk w3 g l (o*2+1) o lim w3.drew from ⟨y1',HC3.out,below_drewN (Below.refl _ _) 1⟩)
  have HSA:Hid (∀ ob,SAsk w3 g l (o*2+1) o lim (w3.alloc ob).drew):=Lib.hid (fun ob=>⟨(hS0.alloc ob).1,(hS0.alloc ob).2.1,below_drewN (hS0.alloc ob).2.2 1⟩);have SB:=Lib.hid (sum_then l A F w3 g (o*2+1) o lim p q u H3.out y1' HC3.out HP.out HQ.out HU.out);have hg3:g<w3.heap.size:=cell_lt y1';have HY2:=Lib.hid y2';clear y1 y2 y3 y1' y2' hS0
  go_region_held3 (fun w'=>w'.cell? ⟨g,1,none⟩=some (.int .i64 (o:Int))∧w'.cell? ⟨l,o*2+1,none⟩=some (.int .i64 (lim:Int))∧Below w3.heap.size w3 w') (first | exact HS0.out | exact sst.out _ _ _ | exact sal.out _ | exact sw.out | exact HSA.out _ | assumption)
   (first
    | (go_at_call 61;refine SB.out.mono ?_;rintro e w' ⟨rfl,PB⟩;have n0:=PB.n0;have n1:=PB.n1;have n2:=PB.n2;have z0:=PB.z0;have z1:=PB.z1;have z2:=PB.z2;have hsw:SAsk w3 g l (o*2+1) o lim w':=⟨PB.a.c1,PB.a.cl,PB.a.b⟩;have sw:=Lib.hid hsw;have sst:=Lib.hid (fun v0 v1 v2=>hsw.st hg3 hl3 v0 v1 v2);clear hsw)
    | (go_at_call 61;refine (l_sum l A F _ _ (H3.out.drewN 1)).mono ?_;rintro e w' ⟨rfl,hbw⟩;rw [HP.out,HQ.out,HU.out];have hsw:SAsk w3 g l (o*2+1) o lim w':=SAsk.below HS0.out hbw;have sw:=Lib.hid hsw;have sal:=Lib.hid (fun ob=>hsw.alloc ob);clear hsw))
  ·have hE:=send_alloc w3 w' p q u sw.out.2.2.size
   have hS:=sal.out (.cells #[.int .i64 (p:Int),.int .i64 (q:Int),.int .i64 (u:Int)] 141);generalize w'.alloc (.cells #[.int .i64 (p:Int),.int .i64 (q:Int),.int .i64 (u:Int)] 141)=wE at hE hS ⊢;obtain ⟨sE,hsE⟩:∃ s,w'.heap.size=s:=⟨_,rfl⟩;rw [hsE] at hE;rw [hsE];clear hsE sal sw hbw;have bE:=hb3.trans (hS.2.2.mono hb3.size);have kr:=(Only.of_below (S:=fun _=>False) hS.2.2).cell (x:=⟨g,2,none⟩) (fun q=>q) HY2.out;clear hS;have e0:=cell_of_row _ _ 0 _ _ _ hE.1;have e1:=cell_of_row _ _ 1 _ _ _ hE.1;have e2:=cell_of_row _ _ 2 _ _ _ hE.1;clear hE
   by_cases hc1:lim≤q
   ·go_wp2_with fail
    go_ret2
    refine ⟨?_,bE⟩;have hA:=HAN.out;rw [if_pos (Or.inl hc1)] at hA;rw [←hA];rfl
   ·go_wp2_with fail
    go_ret2
    refine ⟨?_,bE⟩;have hA:=HAN.out;rw [if_neg (fun h=>h.elim hc1 (fun h=>HR0.out h.1))] at hA;rw [←hA];rfl
  ·have hE:=send_st w3 w' p q u PB.row
   have hS:=sst.out (.int .i64 (p:Int)) (.int .i64 (q:Int)) (.int .i64 (u:Int));clear n0 n1 n2 z0 z1 z2;generalize (((w'.setCell ⟨w3.heap.size,0,none⟩ (.int .i64 (p:Int))).setCell ⟨w3.heap.size,1,none⟩ (.int .i64 (q:Int))).setCell ⟨w3.heap.size,2,none⟩ (.int .i64 (u:Int)))=wE at hE hS ⊢;have bE:=hb3.trans (hS.2.2.mono hb3.size);have kr:=(Only.of_below (S:=fun _=>False) hS.2.2).cell (x:=⟨g,2,none⟩) (fun q=>q) HY2.out;clear sst sw PB hS;obtain ⟨sE,hsE⟩:∃ s,w3.heap.size=s:=⟨_,rfl⟩;rw [hsE] at hE;rw [hsE];clear hsE;have e0:=cell_of_row _ _ 0 _ _ _ hE.1;have e1:=cell_of_row _ _ 1 _ _ _ hE.1;have e2:=cell_of_row _ _ 2 _ _ _ hE.1;clear hE
   by_cases hc1:lim≤q
   ·go_wp2_with fail
    go_ret2
    refine ⟨?_,bE⟩;have hA:=HAN.out;rw [if_pos (Or.inl hc1)] at hA;rw [←hA];rfl
   ·go_wp2_with fail
    go_ret2
    refine ⟨?_,bE⟩;have hA:=HAN.out;rw [if_neg (fun h=>h.elim hc1 (fun h=>HR0.out h.1))] at hA;rw [←hA];rfl
theorem l_ask (l:Nat) (A:Int→Option Nat) (F:Int→Option Fn) (x:Int) (w:World) (h:Lg w l A F) :
  Calls Tryz.prog 40 #[.pointer (some ⟨l,0,none⟩),.int .i64 x] w fun e w'=>e=.returned (.tuple #[.int .i64 ((askC A F x).1:Int),.bool (askC A F x).2])∧Below w.heap.size w w':=by
 cases hF:F x with
 | none=>exact l_ask0 l A F x w h hF
 | some v =>
  obtain ⟨o,r,b⟩:=v
  by_cases hrb:0<r∧r≤b
  ·exact l_ask1 l A F x w h o r b hF hrb.1 hrb.2
  ·exact l_ask2 l A F x w h o r b hF hrb
theorem ask_free {A:Int→Option Nat} {F:Int→Option Fn} (h:Ab A F) {x:Int} (hm:mayB A F x=true):∃ (f o r b:Nat),x=(f:Int)∧f<64∧F x=some (o,r,b)∧b<1000∧¬ (0<r∧r≤b)∧¬ (((A (o:Int)).getD 0:Nat)≤sB F (o:Int)∨(r=0∧((A (o:Int)).getD 0:Nat)≤sO F (o:Int)+sR F (o:Int))):=by
 unfold mayB at hm
 cases hF:F x with
 | none=>rw [ask_none hF] at hm;simp at hm
 | some v =>
  obtain ⟨o,r,b⟩:=v;rw [ask_some hF] at hm
  by_cases h1:0<r∧r≤b
  ·rw [if_pos h1] at hm;simp at hm
  ·rw [if_neg h1] at hm
   by_cases h2:((A (o:Int)).getD 0:Nat)≤sB F (o:Int)∨(r=0∧((A (o:Int)).getD 0:Nat)≤sO F (o:Int)+sR F (o:Int))
   ·rw [if_pos h2] at hm;simp at hm
   ·have hb:=h.f0 _ _ _ _ hF
    have hfx:F ((x.toNat:Nat):Int)=some (o,r,b):=by rw [show ((x.toNat:Nat):Int)=x by omega];exact hF
    have hle:=gB_le_sB (f:=x.toNat) (by omega) hfx
    have hlim:(A (o:Int)).getD 0≤1000:=by
     cases q:A (o:Int) with
     | none=>simp
     | some n=>exact (h.a0 _ _ q).2.2
    exact ⟨x.toNat,o,r,b,by omega,by omega,rfl,by omega,h1,h2⟩
theorem l_begin (l:Nat) (A:Int→Option Nat) (F:Int→Option Fn) (x:Int) (w:World) (h:Lg w l A F) :
  Calls Tryz.prog 66 #[.pointer (some ⟨l,0,none⟩),.int .i64 x] w fun e w'=>e=.returned (.bool (mayB A F x))∧Lg w' l A (begF A F x)∧w.grownBy w' (some l):=by
 have H:=Lib.hid h;have hl:=h.lt
 cases hm:mayB A F x with
 | false =>
  have e1:begF A F x=F:=by unfold begF;rw [hm];rfl
  rw [e1];obtain ⟨c,hc⟩:∃ c,(askC A F x).1=c:=⟨_,rfl⟩;obtain ⟨d,hd⟩:∃ d,(askC A F x).2=d:=⟨_,rfl⟩;unfold mayB at hm;rw [hc,hd] at hm;have HC:=Lib.hid hc;have HD:=Lib.hid hd;clear h e1 hc hd
  cases d with
  | false =>
   clear hm
   go_enter Tryz.func66,Tryz.ntmps66
   go_wp2_with fail
   refine (l_ask l A F x _ H.out).mono ?_;rintro e w' ⟨rfl,b1⟩;rw [HC.out,HD.out]
   go_wp2
   go_ret
   exact ⟨rfl,H.out.keep b1 hl,below_grown b1 _⟩
  | true =>
   have hc0:((c:Int) == 0)=false:=by simp at hm ⊢;omega
   clear hm
   go_enter Tryz.func66,Tryz.ntmps66
   go_wp2_with fail
   refine (l_ask l A F x _ H.out).mono ?_;rintro e w' ⟨rfl,b1⟩;rw [HC.out,HD.out]
   go_wp2
   go_ret
   exact ⟨rfl,H.out.keep b1 hl,below_grown b1 _⟩
 | true =>
  obtain ⟨f,o,r,b,rfl,hf,hF,hb,_,_⟩:=ask_free h.ab hm;have e1:begF A F (f:Int)=updZ F (f:Int) (some (o,r,b+1)):=by unfold begF;rw [hm,hF];rfl
  rw [e1];have HC:Hid ((askC A F (f:Int)).1=0):=Lib.hid (by unfold mayB at hm;simp at hm;exact hm.2)
  have HD:Hid ((askC A F (f:Int)).2=true):=Lib.hid (by unfold mayB at hm;simp at hm;exact hm.1)
  have hfi:(f:Int)<64:=by omega
  have hbI:(b:Int)<1000:=by omega
  have hbw:IntKind.i64.wrap ((b:Int)+1)=(b:Int)+1:=by rw [IntKind.wrap_i64];omega
  have hb1:((b+1:Nat):Int)=(b:Int)+1:=by omega
  have HB1:=Lib.hid hb1;have HF:=Lib.hid hF;have hlen:32+f*4+3<(lrow A F).length:=by rw [lrow_len];omega
  have HLEN:=Lib.hid hlen;have hb2:=Lib.hid (show b+1≤1000 by omega)
  clear h e1 hm hF hlen hb1
  go_enter Tryz.func66,Tryz.ntmps66
  go_wp2_with fail
  refine (l_ask l A F (f:Int) _ H.out).mono ?_;rintro e w1 ⟨rfl,b1⟩;rw [HC.out,HD.out];have H1:=Lib.hid (H.out.keep b1 hl);have c:=H1.out.f3 (f:=f) hf;rw [HF.out] at c;have c':w1.cell? ⟨l,32+f*4+3,none⟩=some (.int .i64 (b:Int)):=c;have hrow:=Lib.hid H1.out.row;clear c;go_wp2_with fail
  go_still_tail 12,(by kernel_rfl)
  change wpList _ _ _ _ _ w1.drew;have hd:=grown_drew (World.grownBy.refl w1 (some l));have hg1:Hid (w1.drew.heap[l]?=_):=hrow;generalize w1.drew=w2 at hd hg1 ⊢;refine wpList_store_in rfl 3 (.tmp 30) (.tmp 26) rfl (by kernel_rfl) l (32+f*4+3) rfl .i64 ((b:Int)+1) rfl _ _ hg1.out HLEN.out ?_
  intro w3 HG3 hg3;rw [←HB1.out] at HG3;clear c'
  go_wp2
  go_ret
  exact ⟨rfl,Lg.run H.out.ab HF.out hb2.out HG3.out,grown_trans (grown_trans (below_grown b1 _) hd) hg3⟩
theorem funC_bad {A:Int→Option Nat} {F:Int→Option Fn} {f x n:Int} (h:(isF f && isA x && isC n)=false):funC A F f x n=1:=by unfold funC;rw [h];rfl
theorem funF_no {A:Int→Option Nat} {F:Int→Option Fn} {f x n:Int} {c:Nat} (h:funC A F f x n=c+1):funF A F f x n=F:=by unfold funF;rw [h];rfl
theorem funC_none {A:Int→Option Nat} {F:Int→Option Fn} {f x n:Int} (h:(isF f && isA x && isC n)=true) (hA:A x=none):funC A F f x n=2:=by unfold funC;rw [h,hA];rfl
theorem funC_other {A:Int→Option Nat} {F:Int→Option Fn} {f x n:Int} {lim o r b:Nat} (h:(isF f && isA x && isC n)=true) (hA:A x=some lim) (hF:F f=some (o,r,b)) (ho:(o:Int)≠x):funC A F f x n=3:=by
 unfold funC;rw [h,hA,hF];simp [ho]
theorem funC_go {A:Int→Option Nat} {F:Int→Option Fn} {f x n:Int} {lim:Nat} (h:(isF f && isA x && isC n)=true) (hA:A x=some lim) (hF:F f=none∨∃ r b o:Nat,F f=some (o,r,b)∧(o:Int)=x) :
  funC A F f x n=if (lim:Int)<(sR F x:Int)-((((F f).getD (0,0,0)).2.1:Nat):Int)+n then 4 else 0:=by
 unfold funC
 rcases hF with hF | ⟨r,b,o,hF,ho⟩
 ·rw [h,hA,hF];simp
 ·rw [h,hA,hF];simp [ho]
abbrev SFun (w3:World) (g l k r m:Nat) (w':World):Prop:=w'.cell? ⟨g,2,none⟩=some (.int .i64 (r:Int))∧w'.cell? ⟨l,k,none⟩=some (.int .i64 (m:Int))∧Below w3.heap.size w3 w'
theorem SFun.below {w3 w' w'':World} {g l k o m:Nat} (hS:SFun w3 g l k o m w') (hb:Below w'.heap.size w' w''):SFun w3 g l k o m w'' :=
 ⟨(Only.of_below (S:=fun _=>False) hb).cell (fun q=>q) hS.1,(Only.of_below (S:=fun _=>False) hb).cell (fun q=>q) hS.2.1,hS.2.2.trans (hb.mono hS.2.2.size)⟩
theorem l_setF0 (l:Nat) (A:Int→Option Nat) (F:Int→Option Fn) (f x n:Int) (w:World) (h:Lg w l A F) (hbad:(isF f && isA x && isC n)=false) :
  Calls Tryz.prog 77 #[.pointer (some ⟨l,0,none⟩),.int .i64 f,.int .i64 x,.int .i64 n] w fun e w'=>e=.returned (.int .i64 (funC A F f x n:Int))∧Lg w' l A (funF A F f x n)∧w.grownBy w' (some l):=by
 have H:=Lib.hid h;clear h
 cases h1:isF f with
 | false =>
  have HF1:=Lib.hid h1;have e1:funC A F f x n=1:=funC_bad (by rw [h1];rfl)
  rw [funF_no e1,e1];clear e1
  go_enter Tryz.func77,Tryz.ntmps77
  go_wp2_with fail
  refine (isF_any _ _).mono ?_;rintro e w' ⟨rfl,rfl⟩;rw [HF1.out]
  go_wp2
  go_ret
  exact ⟨rfl,H.out,World.grownBy.refl _ _⟩
 | true =>
  have HF1:=Lib.hid h1
  cases h2:isA x with
  | false =>
   have HX:=Lib.hid h2;have e1:funC A F f x n=1:=funC_bad (by rw [h1,h2];rfl)
   rw [funF_no e1,e1];clear e1
   go_enter Tryz.func77,Tryz.ntmps77
   go_wp2_with fail
   refine (isF_any _ _).mono ?_;rintro e w' ⟨rfl,rfl⟩;rw [HF1.out];go_wp2_with fail
   refine (isA_any _ _).mono ?_;rintro e w' ⟨rfl,rfl⟩;rw [HX.out]
   go_wp2
   go_ret
   exact ⟨rfl,H.out,World.grownBy.refl _ _⟩
  | true =>
   have HX:=Lib.hid h2;have h3:isC n=false:=by rw [h1,h2] at hbad;exact hbad
   have HN:=Lib.hid h3;have e1:funC A F f x n=1:=funC_bad (by rw [h1,h2,h3];rfl)
   rw [funF_no e1,e1];clear e1
   go_enter Tryz.func77,Tryz.ntmps77
   go_wp2_with fail
   refine (isF_any _ _).mono ?_;rintro e w' ⟨rfl,rfl⟩;rw [HF1.out];go_wp2_with fail
   refine (isA_any _ _).mono ?_;rintro e w' ⟨rfl,rfl⟩;rw [HX.out];go_wp2_with fail
   refine (isC_any _ _).mono ?_;rintro e w' ⟨rfl,rfl⟩;rw [HN.out]
   go_wp2
   go_ret
   exact ⟨rfl,H.out,World.grownBy.refl _ _⟩
theorem l_setF2 (l:Nat) (A:Int→Option Nat) (F:Int→Option Fn) (f x n:Int) (w:World) (h:Lg w l A F) (hgood:(isF f && isA x && isC n)=true) (hA:A x=none) :
  Calls Tryz.prog 77 #[.pointer (some ⟨l,0,none⟩),.int .i64 f,.int .i64 x,.int .i64 n] w fun e w'=>e=.returned (.int .i64 (funC A F f x n:Int))∧Lg w' l A (funF A F f x n)∧w.grownBy w' (some l):=by
 have H:=Lib.hid h;have hgo:=hgood;simp only [Bool.and_eq_true] at hgo;obtain ⟨⟨h1,h2⟩,h3⟩:=hgo;have HF1:=Lib.hid h1;have HX:=Lib.hid h2;have HN:=Lib.hid h3;have e1:=funC_none (F:=F) hgood hA;rw [funF_no e1,e1];obtain ⟨a,rfl,ha⟩:=isA_nat h2;obtain ⟨fn,rfl,hfn⟩:=isF_nat h1;obtain ⟨m,rfl,hm⟩:=isC_nat h3;have haI:(a:Int)<16:=by omega
 have hfI:(fn:Int)<64:=by omega
 have hmI:(m:Int)≤1000:=by omega
 have ca:=h.a0 ha;rw [hA] at ca;have ca':w.cell? ⟨l,a*2,none⟩=some (.bool false):=ca;clear e1 hgood h1 h2 h3 ca hA h
 go_enter Tryz.func77,Tryz.ntmps77
 go_wp2_with fail
 refine (isF_any _ _).mono ?_;rintro e w' ⟨rfl,rfl⟩;rw [HF1.out];go_wp2_with fail
 refine (isA_any _ _).mono ?_;rintro e w' ⟨rfl,rfl⟩;rw [HX.out];go_wp2_with fail
 refine (isC_any _ _).mono ?_;rintro e w' ⟨rfl,rfl⟩;rw [HN.out]
 go_wp2
 go_ret
 exact ⟨rfl,H.out,World.grownBy.refl _ _⟩
theorem l_setF3 (l:Nat) (A:Int→Option Nat) (F:Int→Option Fn) (f x n:Int) (w:World) (h:Lg w l A F) (hgood:(isF f && isA x && isC n)=true) (lim o r b:Nat) (hA:A x=some lim) (hF:F f=some (o,r,b)) (ho:(o:Int)≠x) :
  Calls Tryz.prog 77 #[.pointer (some ⟨l,0,none⟩),.int .i64 f,.int .i64 x,.int .i64 n] w fun e w'=>e=.returned (.int .i64 (funC A F f x n:Int))∧Lg w' l A (funF A F f x n)∧w.grownBy w' (some l):=by
 have H:=Lib.hid h;have hgo:=hgood;simp only [Bool.and_eq_true] at hgo;obtain ⟨⟨h1,h2⟩,h3⟩:=hgo;have HF1:=Lib.hid h1;have HX:=Lib.hid h2;have HN:=Lib.hid h3;have e1:=funC_other hgood hA hF ho;rw [funF_no e1,e1];obtain ⟨a,rfl,ha⟩:=isA_nat h2;obtain ⟨fn,rfl,hfn⟩:=isF_nat h1;obtain ⟨m,rfl,hm⟩:=isC_nat h3;have haI:(a:Int)<16:=by omega
 have hfI:(fn:Int)<64:=by omega
 have hmI:(m:Int)≤1000:=by omega
 have ca:=h.a0 ha;rw [hA] at ca;have ca':w.cell? ⟨l,a*2,none⟩=some (.bool true):=ca;have f0:=h.f0 hfn;have f1:=h.f1 hfn;have f2:=h.f2 hfn;have f3:=h.f3 hfn;rw [hF] at f0 f1 f2 f3;have f0':w.cell? ⟨l,32+fn*4,none⟩=some (.bool true):=f0;have f1':w.cell? ⟨l,32+fn*4+1,none⟩=some (.int .i64 (o:Int)):=f1;have f2':w.cell? ⟨l,32+fn*4+2,none⟩=some (.int .i64 (r:Int)):=f2;have f3':w.cell? ⟨l,32+fn*4+3,none⟩=some (.int .i64 (b:Int)):=f3;have ho':((o:Int) == (a:Int))=false:=by simpa using ho
 have hbx:Below w.heap.size w (w.alloc (.cells #[.bool true,.int .i64 (o:Int),.int .i64 (r:Int),.int .i64 (b:Int)] 99)):=(Below.refl _ _).alloc (Nat.le_refl _) _;have hlt:=h.lt;have hoN:o≠a:=by omega
 clear e1 hgood h1 h2 h3 ca hA h hF f0 f1 f2 f3 ho
 go_enter Tryz.func77,Tryz.ntmps77
 go_wp2_with fail
 refine (isF_any _ _).mono ?_;rintro e w' ⟨rfl,rfl⟩;rw [HF1.out];go_wp2_with fail
 refine (isA_any _ _).mono ?_;rintro e w' ⟨rfl,rfl⟩;rw [HX.out];go_wp2_with fail
 refine (isC_any _ _).mono ?_;rintro e w' ⟨rfl,rfl⟩;rw [HN.out]
 go_wp2
 go_ret
 exact ⟨rfl,H.out.keep hbx hlt,below_grown hbx _⟩
theorem l_setF4 (l:Nat) (A:Int→Option Nat) (F:Int→Option Fn) (f x n:Int) (w:World) (h:Lg w l A F) (hgood:(isF f && isA x && isC n)=true) (lim:Nat) (hA:A x=some lim) (hF:F f=none∨∃ r b o:Nat,F f=some (o,r,b)∧(o:Int)=x) :
  Calls Tryz.prog 77 #[.pointer (some ⟨l,0,none⟩),.int .i64 f,.int .i64 x,.int .i64 n] w fun e w'=>e=.returned (.int .i64 (funC A F f x n:Int))∧Lg w' l A (funF A F f x n)∧w.grownBy w' (some l):=by
 have H:=Lib.hid h;have hgo:=hgood;simp only [Bool.and_eq_true] at hgo;obtain ⟨⟨h1,h2⟩,h3⟩:=hgo;have HF1:=Lib.hid h1;have HX:=Lib.hid h2;have HN:=Lib.hid h3;have e1:=funC_go hgood hA hF;obtain ⟨a,rfl,ha⟩:=isA_nat h2;obtain ⟨fn,rfl,hfn⟩:=isF_nat h1;obtain ⟨m,rfl,hm⟩:=isC_nat h3;have haI:(a:Int)<16:=by omega
 have hfI:(fn:Int)<64:=by omega
 have hmI:(m:Int)≤1000:=by omega
 have ca:=h.a0 ha;rw [hA] at ca;have ca':w.cell? ⟨l,a*2,none⟩=some (.bool true):=ca;have f0:=h.f0 hfn;have f1:=h.f1 hfn;have f2:=h.f2 hfn;have f3:=h.f3 hfn;have cl:=h.a1 ha;rw [hA] at cl;have HCL:Hid (w.cell? ⟨l,a*2+1,none⟩=some (.int .i64 (lim:Int))):=Lib.hid cl;have hl:=h.lt
 have hbd:((F (fn:Int)).getD (0,0,0)).1<16∧((F (fn:Int)).getD (0,0,0)).2.1≤1000∧((F (fn:Int)).getD (0,0,0)).2.2≤1000:=by
  cases q:F (fn:Int) with
  | none=>simp
  | some v=>obtain ⟨o,r,b⟩:=v;have:=h.ab.f0 _ _ _ _ q;exact ⟨this.2.2.1,this.2.2.2.1,this.2.2.2.2⟩
 have hpR:=h.ab.sR (a:Int);have hlim:=(h.ab.a0 _ _ hA).2.2
 have hth:((F (fn:Int)).isSome=false)∨((F (fn:Int)).isSome=true∧((F (fn:Int)).getD (0,0,0)).1=a):=by
  rcases hF with hF | ⟨r,b,o,hF,ho⟩
  ·rw [hF];exact Or.inl rfl
  ·rw [hF];refine Or.inr ⟨rfl,?_⟩;show o=a;omega
 obtain ⟨p,hp⟩:∃ p,sR F (a:Int)=p:=⟨_,rfl⟩;obtain ⟨q,hq⟩:∃ q,sB F (a:Int)=q:=⟨_,rfl⟩;obtain ⟨u,hu⟩:∃ u,sO F (a:Int)=u:=⟨_,rfl⟩;obtain ⟨o,ho⟩:∃ o,((F (fn:Int)).getD (0,0,0)).1=o:=⟨_,rfl⟩;obtain ⟨r,hr⟩:∃ r,((F (fn:Int)).getD (0,0,0)).2.1=r:=⟨_,rfl⟩;obtain ⟨b,hb⟩:∃ b,((F (fn:Int)).getD (0,0,0)).2.2=b:=⟨_,rfl⟩;rw [hr,hp] at e1;rw [ho] at f1 hth;rw [hr] at f2;rw [hb] at f3;rw [ho,hr,hb] at hbd;rw [hp] at hpR;have HB:=Lib.hid hb;have hoI:(o:Int)<16:=by omega
 have hrI:(r:Int)≤1000:=by omega
 have hbI:(b:Int)≤1000:=by omega
 have hpI:(p:Int)≤64000:=by omega
 have hlI:(lim:Int)≤1000:=by omega
 have hb1000:b≤1000:=by omega
 have hw1:IntKind.i64.wrap ((p:Int)-(r:Int))=(p:Int)-(r:Int):=by rw [IntKind.wrap_i64];omega
 have hw2:IntKind.i64.wrap ((p:Int)-(r:Int)+(m:Int))=(p:Int)-(r:Int)+(m:Int):=by rw [IntKind.wrap_i64];omega
 have f1':w.cell? ⟨l,32+fn*4+1,none⟩=some (.int .i64 (o:Int)):=f1;have f2':w.cell? ⟨l,32+fn*4+2,none⟩=some (.int .i64 (r:Int)):=f2;have f3':w.cell? ⟨l,32+fn*4+3,none⟩=some (.int .i64 (b:Int)):=f3;have HC0:=Lib.hid e1;have HP:=Lib.hid hp;have HQ:=Lib.hid hq;have HU:=Lib.hid hu;have hfd:∀ w,(Instr.field 141 (Sums p q u) 0).run Tryz.prog w=.ok (.int .i64 (p:Int)) w:=fun w=>by kernel_rfl
 clear hgood h1 h2 h3 ca hA h hF f1 f2 f3 cl hbd ho hr hb hp hq hu e1 hpR hlim
 rcases hth with hth | ⟨hth,hoa⟩
 ·rw [hth] at f0
  have f0':w.cell? ⟨l,32+fn*4,none⟩=some (.bool false):=f0;clear f0 hth
  go_enter Tryz.func77,Tryz.ntmps77
  go_wp2_with fail
  refine (isF_any _ _).mono ?_;rintro e w' ⟨rfl,rfl⟩;rw [HF1.out];go_wp2_with fail
  refine (isA_any _ _).mono ?_;rintro e w' ⟨rfl,rfl⟩;rw [HX.out];go_wp2_with fail
  refine (isC_any _ _).mono ?_;rintro e w' ⟨rfl,rfl⟩;rw [HN.out];go_upto_region 6 with (fail)
  have hb3:Below w.heap.size w (w.alloc (.cells #[.bool false,.int .i64 (o:Int),.int .i64 (r:Int),.int .i64 (b:Int)] 99)):=(Below.refl _ _).alloc (Nat.le_refl _) _;have H3:=Lib.hid (H.out.keep hb3 hl);have HC3:=Lib.hid ((Only.of_below (S:=fun _=>False) hb3).cell (fun q=>q) HCL.out);have hq3:=heap_alloc_new w (.cells #[.bool false,.int .i64 (o:Int),.int .i64 (r:Int),.int .i64 (b:Int)] 99);obtain ⟨g,hg⟩:∃ g,w.heap.size=g:=⟨_,rfl⟩;rw [hg] at hq3;rw [hg];have HG:=Lib.hid hg;have hgl:l<g:=by omega
  clear hg f0' f1' f2' f3' ca';generalize w.alloc (.cells #[.bool false,.int .i64 (o:Int),.int .i64 (r:Int),.int .i64 (b:Int)] 99)=w3 at hb3 H3 HC3 hq3 ⊢;have y0:=cell_of_row _ _ 0 _ _ _ hq3;have y1:=cell_of_row _ _ 1 _ _ _ hq3;have y2:=cell_of_row _ _ 2 _ _ _ hq3;have y3:w3.cell? ⟨g,3,none⟩=some (.int .i64 (b:Int)):=cell_of_row _ _ 3 _ _ _ hq3;have y2':w3.cell? ⟨g,2,none⟩=some (.int .i64 (r:Int)):=y2;have hl3:=H3.out.lt;clear hq3;go_upto_region 8 with (fail)
  have HS0:=Lib.hid (show SFun w3 g l (a*2+1) r lim w3.drew from ⟨y2',HC3.out,below_drewN (Below.refl _ _) 1⟩)
  have HY3:=Lib.hid y3;clear y0 y1 y2 y3 y2'
  go_region_held3 (fun w'=>w'.cell? ⟨g,2,none⟩=some (.int .i64 (r:Int))∧w'.cell? ⟨l,a*2+1,none⟩=some (.int .i64 (lim:Int))∧Below w3.heap.size w3 w') (first | exact HS0.out | exact sw.out | assumption)
   (first
    | (go_at_call 61;refine (l_sum l A F _ _ (H3.out.drewN 1)).mono ?_;rintro e w' ⟨rfl,hbw⟩;rw [HP.out,HQ.out,HU.out];have hsw:SFun w3 g l (a*2+1) r lim w':=SFun.below HS0.out hbw;have sw:=Lib.hid hsw;clear hsw))
  have bE:=hb3.trans (sw.out.2.2.mono hb3.size);have y3:=(Only.of_below (S:=fun _=>False) sw.out.2.2).cell (x:=⟨g,3,none⟩) (fun q=>q) HY3.out;have HE:=Lib.hid (H3.out.keep sw.out.2.2 hl3);clear hbw sw HS0  HY3
  by_cases hc:(lim:Int)<(p:Int)-(r:Int)+(m:Int)
  ·have hcd:decide ((lim:Int)<(p:Int)-(r:Int)+(m:Int))=true:=decide_eq_true hc
   have hA0:=HC0.out;rw [if_pos hc] at hA0;have HA0:=Lib.hid hA0;clear hA0;go_wp2_with fail
   go_ret
   rw [HA0.out];exact ⟨rfl,by rw [funF_no HA0.out];exact HE.out,below_grown bE _⟩
  ·have hcd:decide ((lim:Int)<(p:Int)-(r:Int)+(m:Int))=false:=decide_eq_false hc
   have hA0:=HC0.out;rw [if_neg hc] at hA0;have HA0:=Lib.hid hA0;have hc':(p:Int)-(r:Int)+(m:Int)≤(lim:Int):=by omega
   clear hc hA0;go_wp2_with fail
   go_still_tail 10,(by kernel_rfl)
   change wpList _ _ _ _ _ w'.drew;have hd:=grown_drew (World.grownBy.refl w' (some l));have HE1:Hid (Lg w'.drew l A F):=Lib.hid (HE.out.drewN 1);generalize w'.drew=w5 at hd HE1 ⊢;refine wpList_store_fn rfl (.tmp 71) (.tmp 68) rfl l fn a m b rfl rfl A F HE1.out hfn ha hm hb1000 ?_;intro w6 HG6 hg6;clear y3 hcd
   go_wp2
   go_ret
   rw [HA0.out];refine ⟨rfl,?_,grown_trans (grown_trans (below_grown bE _) hd) hg6⟩
   have e2:funF A F (fn:Int) (a:Int) (m:Int)=updZ F (fn:Int) (some (a,m,b)):=by
    unfold funF;rw [HA0.out,if_pos rfl];simp only [Int.toNat_natCast,HB.out]
   rw [e2];exact HG6.out
 ·rw [hth] at f0
  have f0':w.cell? ⟨l,32+fn*4,none⟩=some (.bool true):=f0;have hoa':=hoa.symm;clear hoa;subst hoa';clear f0 hth
  go_enter Tryz.func77,Tryz.ntmps77
  go_wp2_with fail
  refine (isF_any _ _).mono ?_;rintro e w' ⟨rfl,rfl⟩;rw [HF1.out];go_wp2_with fail
  refine (isA_any _ _).mono ?_;rintro e w' ⟨rfl,rfl⟩;rw [HX.out];go_wp2_with fail
  refine (isC_any _ _).mono ?_;rintro e w' ⟨rfl,rfl⟩;rw [HN.out];go_upto_region 6 with (fail)
  have hb3:Below w.heap.size w (w.alloc (.cells #[.bool true,.int .i64 (a:Int),.int .i64 (r:Int),.int .i64 (b:Int)] 99)):=(Below.refl _ _).alloc (Nat.le_refl _) _;have H3:=Lib.hid (H.out.keep hb3 hl);have HC3:=Lib.hid ((Only.of_below (S:=fun _=>False) hb3).cell (fun q=>q) HCL.out);have hq3:=heap_alloc_new w (.cells #[.bool true,.int .i64 (a:Int),.int .i64 (r:Int),.int .i64 (b:Int)] 99);obtain ⟨g,hg⟩:∃ g,w.heap.size=g:=⟨_,rfl⟩;rw [hg] at hq3;rw [hg];have HG:=Lib.hid hg;have hgl:l<g:=by omega
  clear hg f0' f1' f2' f3' ca';generalize w.alloc (.cells #[.bool true,.int .i64 (a:Int),.int .i64 (r:Int),.int .i64 (b:Int)] 99)=w3 at hb3 H3 HC3 hq3 ⊢;have y0:=cell_of_row _ _ 0 _ _ _ hq3;have y1:=cell_of_row _ _ 1 _ _ _ hq3;have y2:=cell_of_row _ _ 2 _ _ _ hq3;have y3:w3.cell? ⟨g,3,none⟩=some (.int .i64 (b:Int)):=cell_of_row _ _ 3 _ _ _ hq3;have y2':w3.cell? ⟨g,2,none⟩=some (.int .i64 (r:Int)):=y2;have hl3:=H3.out.lt;clear hq3;go_upto_region 8 with (fail)
  have HS0:=Lib.hid (show SFun w3 g l (a*2+1) r lim w3.drew from ⟨y2',HC3.out,below_drewN (Below.refl _ _) 1⟩)
  have HY3:=Lib.hid y3;clear y0 y1 y2 y3 y2'
  go_region_held3 (fun w'=>w'.cell? ⟨g,2,none⟩=some (.int .i64 (r:Int))∧w'.cell? ⟨l,a*2+1,none⟩=some (.int .i64 (lim:Int))∧Below w3.heap.size w3 w') (first | exact HS0.out | exact sw.out | assumption)
   (first
    | (go_at_call 61;refine (l_sum l A F _ _ (H3.out.drewN 1)).mono ?_;rintro e w' ⟨rfl,hbw⟩;rw [HP.out,HQ.out,HU.out];have hsw:SFun w3 g l (a*2+1) r lim w':=SFun.below HS0.out hbw;have sw:=Lib.hid hsw;clear hsw))
  have bE:=hb3.trans (sw.out.2.2.mono hb3.size);have y3:=(Only.of_below (S:=fun _=>False) sw.out.2.2).cell (x:=⟨g,3,none⟩) (fun q=>q) HY3.out;have HE:=Lib.hid (H3.out.keep sw.out.2.2 hl3);clear hbw sw HS0  HY3
  by_cases hc:(lim:Int)<(p:Int)-(r:Int)+(m:Int)
  ·have hcd:decide ((lim:Int)<(p:Int)-(r:Int)+(m:Int))=true:=decide_eq_true hc
   have hA0:=HC0.out;rw [if_pos hc] at hA0;have HA0:=Lib.hid hA0;clear hA0;go_wp2_with fail
   go_ret
   rw [HA0.out];exact ⟨rfl,by rw [funF_no HA0.out];exact HE.out,below_grown bE _⟩
  ·have hcd:decide ((lim:Int)<(p:Int)-(r:Int)+(m:Int))=false:=decide_eq_false hc
   have hA0:=HC0.out;rw [if_neg hc] at hA0;have HA0:=Lib.hid hA0;have hc':(p:Int)-(r:Int)+(m:Int)≤(lim:Int):=by omega
   clear hc hA0;go_wp2_with fail
   go_still_tail 10,(by kernel_rfl)
   change wpList _ _ _ _ _ w'.drew;have hd:=grown_drew (World.grownBy.refl w' (some l));have HE1:Hid (Lg w'.drew l A F):=Lib.hid (HE.out.drewN 1);generalize w'.drew=w5 at hd HE1 ⊢;refine wpList_store_fn rfl (.tmp 71) (.tmp 68) rfl l fn a m b rfl rfl A F HE1.out hfn ha hm hb1000 ?_;intro w6 HG6 hg6;clear y3 hcd
   go_wp2
   go_ret
   rw [HA0.out];refine ⟨rfl,?_,grown_trans (grown_trans (below_grown bE _) hd) hg6⟩
   have e2:funF A F (fn:Int) (a:Int) (m:Int)=updZ F (fn:Int) (some (a,m,b)):=by
    unfold funF;rw [HA0.out,if_pos rfl];simp only [Int.toNat_natCast,HB.out]
   rw [e2];exact HG6.out
theorem l_setF (l:Nat) (A:Int→Option Nat) (F:Int→Option Fn) (f x n:Int) (w:World) (h:Lg w l A F) :
  Calls Tryz.prog 77 #[.pointer (some ⟨l,0,none⟩),.int .i64 f,.int .i64 x,.int .i64 n] w fun e w'=>e=.returned (.int .i64 (funC A F f x n:Int))∧Lg w' l A (funF A F f x n)∧w.grownBy w' (some l):=by
 cases hg:(isF f && isA x && isC n) with
 | false=>exact l_setF0 l A F f x n w h hg
 | true =>
  cases hA:A x with
  | none=>exact l_setF2 l A F f x n w h hg hA
  | some lim =>
   cases hF:F f with
   | none=>exact l_setF4 l A F f x n w h hg lim hA (Or.inl hF)
   | some v =>
    obtain ⟨o,r,b⟩:=v
    by_cases ho:(o:Int)=x
    ·exact l_setF4 l A F f x n w h hg lim hA (Or.inr ⟨r,b,o,hF,ho⟩)
    ·exact l_setF3 l A F f x n w h hg lim o r b hA hF ho
end Go.Proofs.YthdengocipfgiaaGreat.W
