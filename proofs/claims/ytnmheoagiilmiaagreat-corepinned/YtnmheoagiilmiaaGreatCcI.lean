import Derived.Test.YtnmheoagiilmiaaGreatCcB
import Derived.Test.YtnmheoagiilmiaaGreatCcD
import Derived.Test.YtnmheoagiilmiaaGreatCcE
import Derived.Test.YtnmheoagiilmiaaGreatCcF
import Derived.Test.YtnmheoagiilmiaaGreatCcG
import Derived.Test.YtnmheoagiilmiaaGreatCcH
/- A part of what core's laws stand on. -/
set_option linter.unusedVariables false
set_option linter.unusedSimpArgs false
set_option maxRecDepth 100000
set_option maxHeartbeats 1600000
namespace Go.Proofs.YtnmheoagiilmiaaGreat.W.C
open Go.RowKit Go.Proofs.YtnmheoagiilmiaaGreat.W
attribute [local go_sem] Oper.semAt_some
def Sm (e:Ev):Prop:=(0≤e.n∧e.n≤2147483647)∧0≤e.a∧0≤e.p
theorem Sm.wf {e:Ev} (h:Sm e):(KL e.n).wf=true:=wfK (by have:=h.1;omega) (by have:=h.1;omega)
theorem turn_0 (s:St) (n l z r a m c v p:Int):s.turn ⟨0,n,l,z,r,a,m,c,v,p⟩=(s.tick,0):=by
 unfold St.turn;simp
theorem c_turn0 {w:World} {own:Nat→Option Tag} {y:Lay} {s:St} (h:Cor w own y s) {K:Nat} (hI:Inv (K+64064) 0 s) (n l z r a m c v p:Int) (hS:Sm ⟨0,n,l,z,r,a,m,c,v,p⟩) :
  Calls Tryz.prog 32 #[ptr y.c,.agg #[.int .i64 0,.int .i64 n,.int .i64 l,.int .i64 z,.int .i64 r,.int .i64 a,.int .i64 m,.int .i64 c,.int .i64 v,.int .i64 p]] w fun e w'=>e=.returned (.int .i64 (s.turn ⟨0,n,l,z,r,a,m,c,v,p⟩).2)∧Ty w own y (s.turn ⟨0,n,l,z,r,a,m,c,v,p⟩).1 w':=by
 have hb0:Below w.heap.size w (w.alloc (.cells #[.int .i64 0,.int .i64 n,.int .i64 l,.int .i64 z,.int .i64 r,.int .i64 a,.int .i64 m,.int .i64 c,.int .i64 v,.int .i64 p] 28)):=(Below.refl _ _).alloc (Nat.le_refl _) _
 have hrow0:=heap_alloc_new w (.cells #[.int .i64 0,.int .i64 n,.int .i64 l,.int .i64 z,.int .i64 r,.int .i64 a,.int .i64 m,.int .i64 c,.int .i64 v,.int .i64 p] 28)
 have HI:=Lib.hid hI
 have HE:=Lib.hid (turn_0 s n l z r a m c v p)
 have HS:=Lib.hid hS
 clear hI
 go_enter Tryz.func32,Tryz.ntmps32
 go_upto_region 1 with (fail)
 have h1:=h.below hb0
 have HN1:=Lib.hid (Nx.below own hb0)
 obtain ⟨Hb,hHb⟩:∃ Hb,w.heap.size=Hb:=⟨_,rfl⟩
 rw [hHb] at hrow0
 rw [hHb]
 have HR1:=Lib.hid hrow0
 clear hrow0 hb0 hHb h
 generalize w.alloc (.cells #[.int .i64 0,.int .i64 n,.int .i64 l,.int .i64 z,.int .i64 r,.int .i64 a,.int .i64 m,.int .i64 c,.int .i64 v,.int .i64 p] 28)=w1 at h1 HN1 HR1 ⊢
 have y0:w1.cell? ⟨Hb,0,none⟩=some (.int .i64 0):=cell_of_row _ _ 0 _ _ _ HR1.out
 have y1:w1.cell? ⟨Hb,1,none⟩=some (.int .i64 n):=cell_of_row _ _ 1 _ _ _ HR1.out
 have y2:w1.cell? ⟨Hb,2,none⟩=some (.int .i64 l):=cell_of_row _ _ 2 _ _ _ HR1.out
 have y3:w1.cell? ⟨Hb,3,none⟩=some (.int .i64 z):=cell_of_row _ _ 3 _ _ _ HR1.out
 have y4:w1.cell? ⟨Hb,4,none⟩=some (.int .i64 r):=cell_of_row _ _ 4 _ _ _ HR1.out
 have y5:w1.cell? ⟨Hb,5,none⟩=some (.int .i64 a):=cell_of_row _ _ 5 _ _ _ HR1.out
 have y6:w1.cell? ⟨Hb,6,none⟩=some (.int .i64 m):=cell_of_row _ _ 6 _ _ _ HR1.out
 have y7:w1.cell? ⟨Hb,7,none⟩=some (.int .i64 c):=cell_of_row _ _ 7 _ _ _ HR1.out
 have y8:w1.cell? ⟨Hb,8,none⟩=some (.int .i64 v):=cell_of_row _ _ 8 _ _ _ HR1.out
 have y9:w1.cell? ⟨Hb,9,none⟩=some (.int .i64 p):=cell_of_row _ _ 9 _ _ _ HR1.out
 have KC:=Lib.hid (c_tick h1 HI.out)
 clear h1
 go_wp2_with (go_at_call 54;with_reducible refine KC.out.mono ?_;rintro e2 w2 ⟨rfl,b2,o2,h2,n2⟩)
 go_ret
 rw [HE.out]
 exact ⟨rfl,y.at_ b2,rfl,rfl,o2,h2,HN1.out.trans n2⟩
theorem turn_1 (s:St) (n l z r a m c v p:Int):s.turn ⟨1,n,l,z,r,a,m,c,v,p⟩=s.account ⟨1,n,l,z,r,a,m,c,v,p⟩:=by
 unfold St.turn;simp
theorem c_turn1 {w:World} {own:Nat→Option Tag} {y:Lay} {s:St} (h:Cor w own y s) {K:Nat} (hI:Inv (K+64064) 0 s) (n l z r a m c v p:Int) (hS:Sm ⟨1,n,l,z,r,a,m,c,v,p⟩) :
  Calls Tryz.prog 32 #[ptr y.c,.agg #[.int .i64 1,.int .i64 n,.int .i64 l,.int .i64 z,.int .i64 r,.int .i64 a,.int .i64 m,.int .i64 c,.int .i64 v,.int .i64 p]] w fun e w'=>e=.returned (.int .i64 (s.turn ⟨1,n,l,z,r,a,m,c,v,p⟩).2)∧Ty w own y (s.turn ⟨1,n,l,z,r,a,m,c,v,p⟩).1 w':=by
 have hb0:Below w.heap.size w (w.alloc (.cells #[.int .i64 1,.int .i64 n,.int .i64 l,.int .i64 z,.int .i64 r,.int .i64 a,.int .i64 m,.int .i64 c,.int .i64 v,.int .i64 p] 28)):=(Below.refl _ _).alloc (Nat.le_refl _) _
 have hrow0:=heap_alloc_new w (.cells #[.int .i64 1,.int .i64 n,.int .i64 l,.int .i64 z,.int .i64 r,.int .i64 a,.int .i64 m,.int .i64 c,.int .i64 v,.int .i64 p] 28)
 have HI:=Lib.hid hI
 have HE:=Lib.hid (turn_1 s n l z r a m c v p)
 have HS:=Lib.hid hS
 clear hI
 go_enter Tryz.func32,Tryz.ntmps32
 go_upto_region 1 with (fail)
 have h1:=h.below hb0
 have HN1:=Lib.hid (Nx.below own hb0)
 obtain ⟨Hb,hHb⟩:∃ Hb,w.heap.size=Hb:=⟨_,rfl⟩
 rw [hHb] at hrow0
 rw [hHb]
 have HR1:=Lib.hid hrow0
 clear hrow0 hb0 hHb h
 generalize w.alloc (.cells #[.int .i64 1,.int .i64 n,.int .i64 l,.int .i64 z,.int .i64 r,.int .i64 a,.int .i64 m,.int .i64 c,.int .i64 v,.int .i64 p] 28)=w1 at h1 HN1 HR1 ⊢
 have y0:w1.cell? ⟨Hb,0,none⟩=some (.int .i64 1):=cell_of_row _ _ 0 _ _ _ HR1.out
 have y1:w1.cell? ⟨Hb,1,none⟩=some (.int .i64 n):=cell_of_row _ _ 1 _ _ _ HR1.out
 have y2:w1.cell? ⟨Hb,2,none⟩=some (.int .i64 l):=cell_of_row _ _ 2 _ _ _ HR1.out
 have y3:w1.cell? ⟨Hb,3,none⟩=some (.int .i64 z):=cell_of_row _ _ 3 _ _ _ HR1.out
 have y4:w1.cell? ⟨Hb,4,none⟩=some (.int .i64 r):=cell_of_row _ _ 4 _ _ _ HR1.out
 have y5:w1.cell? ⟨Hb,5,none⟩=some (.int .i64 a):=cell_of_row _ _ 5 _ _ _ HR1.out
 have y6:w1.cell? ⟨Hb,6,none⟩=some (.int .i64 m):=cell_of_row _ _ 6 _ _ _ HR1.out
 have y7:w1.cell? ⟨Hb,7,none⟩=some (.int .i64 c):=cell_of_row _ _ 7 _ _ _ HR1.out
 have y8:w1.cell? ⟨Hb,8,none⟩=some (.int .i64 v):=cell_of_row _ _ 8 _ _ _ HR1.out
 have y9:w1.cell? ⟨Hb,9,none⟩=some (.int .i64 p):=cell_of_row _ _ 9 _ _ _ HR1.out
 have KC:=Lib.hid (c_setAccount h1 HI.out 1 n l z r a m c v p)
 clear h1
 go_wp2_with (go_at_call 48;with_reducible refine KC.out.mono ?_;rintro e2 w2 ⟨rfl,y2,hy2,ha2,o2,h2,n2⟩)
 go_ret
 rw [HE.out]
 exact ⟨rfl,y2,hy2,ha2,o2,h2,HN1.out.trans n2⟩
theorem turn_2 (s:St) (n l z r a m c v p:Int):s.turn ⟨2,n,l,z,r,a,m,c,v,p⟩=s.func ⟨2,n,l,z,r,a,m,c,v,p⟩:=by
 unfold St.turn;simp
theorem c_turn2 {w:World} {own:Nat→Option Tag} {y:Lay} {s:St} (h:Cor w own y s) {K:Nat} (hI:Inv (K+64064) 0 s) (n l z r a m c v p:Int) (hS:Sm ⟨2,n,l,z,r,a,m,c,v,p⟩) :
  Calls Tryz.prog 32 #[ptr y.c,.agg #[.int .i64 2,.int .i64 n,.int .i64 l,.int .i64 z,.int .i64 r,.int .i64 a,.int .i64 m,.int .i64 c,.int .i64 v,.int .i64 p]] w fun e w'=>e=.returned (.int .i64 (s.turn ⟨2,n,l,z,r,a,m,c,v,p⟩).2)∧Ty w own y (s.turn ⟨2,n,l,z,r,a,m,c,v,p⟩).1 w':=by
 have hb0:Below w.heap.size w (w.alloc (.cells #[.int .i64 2,.int .i64 n,.int .i64 l,.int .i64 z,.int .i64 r,.int .i64 a,.int .i64 m,.int .i64 c,.int .i64 v,.int .i64 p] 28)):=(Below.refl _ _).alloc (Nat.le_refl _) _
 have hrow0:=heap_alloc_new w (.cells #[.int .i64 2,.int .i64 n,.int .i64 l,.int .i64 z,.int .i64 r,.int .i64 a,.int .i64 m,.int .i64 c,.int .i64 v,.int .i64 p] 28)
 have HI:=Lib.hid hI
 have HE:=Lib.hid (turn_2 s n l z r a m c v p)
 have HS:=Lib.hid hS
 clear hI
 go_enter Tryz.func32,Tryz.ntmps32
 go_upto_region 1 with (fail)
 have h1:=h.below hb0
 have HN1:=Lib.hid (Nx.below own hb0)
 obtain ⟨Hb,hHb⟩:∃ Hb,w.heap.size=Hb:=⟨_,rfl⟩
 rw [hHb] at hrow0
 rw [hHb]
 have HR1:=Lib.hid hrow0
 clear hrow0 hb0 hHb h
 generalize w.alloc (.cells #[.int .i64 2,.int .i64 n,.int .i64 l,.int .i64 z,.int .i64 r,.int .i64 a,.int .i64 m,.int .i64 c,.int .i64 v,.int .i64 p] 28)=w1 at h1 HN1 HR1 ⊢
 have y0:w1.cell? ⟨Hb,0,none⟩=some (.int .i64 2):=cell_of_row _ _ 0 _ _ _ HR1.out
 have y1:w1.cell? ⟨Hb,1,none⟩=some (.int .i64 n):=cell_of_row _ _ 1 _ _ _ HR1.out
 have y2:w1.cell? ⟨Hb,2,none⟩=some (.int .i64 l):=cell_of_row _ _ 2 _ _ _ HR1.out
 have y3:w1.cell? ⟨Hb,3,none⟩=some (.int .i64 z):=cell_of_row _ _ 3 _ _ _ HR1.out
 have y4:w1.cell? ⟨Hb,4,none⟩=some (.int .i64 r):=cell_of_row _ _ 4 _ _ _ HR1.out
 have y5:w1.cell? ⟨Hb,5,none⟩=some (.int .i64 a):=cell_of_row _ _ 5 _ _ _ HR1.out
 have y6:w1.cell? ⟨Hb,6,none⟩=some (.int .i64 m):=cell_of_row _ _ 6 _ _ _ HR1.out
 have y7:w1.cell? ⟨Hb,7,none⟩=some (.int .i64 c):=cell_of_row _ _ 7 _ _ _ HR1.out
 have y8:w1.cell? ⟨Hb,8,none⟩=some (.int .i64 v):=cell_of_row _ _ 8 _ _ _ HR1.out
 have y9:w1.cell? ⟨Hb,9,none⟩=some (.int .i64 p):=cell_of_row _ _ 9 _ _ _ HR1.out
 have KC:=Lib.hid (c_setFunc h1 (K:=K) (HI.out.mono (by omega) (Nat.le_refl _)) 2 n l z r a m c v p ⟨hS.1.1,hS.2.1,hS.2.2⟩)
 clear h1
 go_wp2_with (go_at_call 49;with_reducible refine KC.out.mono ?_;rintro e2 w2 ⟨rfl,y2,hy2,ha2,o2,h2,n2⟩)
 go_ret
 rw [HE.out]
 exact ⟨rfl,y2,hy2,ha2,o2,h2,HN1.out.trans n2⟩
theorem turn_3 (s:St) (n l z r a m c v p:Int):s.turn ⟨3,n,l,z,r,a,m,c,v,p⟩=s.addHost n z:=by
 unfold St.turn;simp
theorem c_turn3 {w:World} {own:Nat→Option Tag} {y:Lay} {s:St} (h:Cor w own y s) {K:Nat} (hI:Inv (K+64064) 0 s) (n l z r a m c v p:Int) (hS:Sm ⟨3,n,l,z,r,a,m,c,v,p⟩) :
  Calls Tryz.prog 32 #[ptr y.c,.agg #[.int .i64 3,.int .i64 n,.int .i64 l,.int .i64 z,.int .i64 r,.int .i64 a,.int .i64 m,.int .i64 c,.int .i64 v,.int .i64 p]] w fun e w'=>e=.returned (.int .i64 (s.turn ⟨3,n,l,z,r,a,m,c,v,p⟩).2)∧Ty w own y (s.turn ⟨3,n,l,z,r,a,m,c,v,p⟩).1 w':=by
 have hb0:Below w.heap.size w (w.alloc (.cells #[.int .i64 3,.int .i64 n,.int .i64 l,.int .i64 z,.int .i64 r,.int .i64 a,.int .i64 m,.int .i64 c,.int .i64 v,.int .i64 p] 28)):=(Below.refl _ _).alloc (Nat.le_refl _) _
 have hrow0:=heap_alloc_new w (.cells #[.int .i64 3,.int .i64 n,.int .i64 l,.int .i64 z,.int .i64 r,.int .i64 a,.int .i64 m,.int .i64 c,.int .i64 v,.int .i64 p] 28)
 have HI:=Lib.hid hI
 have HE:=Lib.hid (turn_3 s n l z r a m c v p)
 have HS:=Lib.hid hS
 clear hI
 go_enter Tryz.func32,Tryz.ntmps32
 go_upto_region 1 with (fail)
 have h1:=h.below hb0
 have HN1:=Lib.hid (Nx.below own hb0)
 obtain ⟨Hb,hHb⟩:∃ Hb,w.heap.size=Hb:=⟨_,rfl⟩
 rw [hHb] at hrow0
 rw [hHb]
 have HR1:=Lib.hid hrow0
 clear hrow0 hb0 hHb h
 generalize w.alloc (.cells #[.int .i64 3,.int .i64 n,.int .i64 l,.int .i64 z,.int .i64 r,.int .i64 a,.int .i64 m,.int .i64 c,.int .i64 v,.int .i64 p] 28)=w1 at h1 HN1 HR1 ⊢
 have y0:w1.cell? ⟨Hb,0,none⟩=some (.int .i64 3):=cell_of_row _ _ 0 _ _ _ HR1.out
 have y1:w1.cell? ⟨Hb,1,none⟩=some (.int .i64 n):=cell_of_row _ _ 1 _ _ _ HR1.out
 have y2:w1.cell? ⟨Hb,2,none⟩=some (.int .i64 l):=cell_of_row _ _ 2 _ _ _ HR1.out
 have y3:w1.cell? ⟨Hb,3,none⟩=some (.int .i64 z):=cell_of_row _ _ 3 _ _ _ HR1.out
 have y4:w1.cell? ⟨Hb,4,none⟩=some (.int .i64 r):=cell_of_row _ _ 4 _ _ _ HR1.out
 have y5:w1.cell? ⟨Hb,5,none⟩=some (.int .i64 a):=cell_of_row _ _ 5 _ _ _ HR1.out
 have y6:w1.cell? ⟨Hb,6,none⟩=some (.int .i64 m):=cell_of_row _ _ 6 _ _ _ HR1.out
 have y7:w1.cell? ⟨Hb,7,none⟩=some (.int .i64 c):=cell_of_row _ _ 7 _ _ _ HR1.out
 have y8:w1.cell? ⟨Hb,8,none⟩=some (.int .i64 v):=cell_of_row _ _ 8 _ _ _ HR1.out
 have y9:w1.cell? ⟨Hb,9,none⟩=some (.int .i64 p):=cell_of_row _ _ 9 _ _ _ HR1.out
 have KC:=Lib.hid (c_addHost h1 (K:=K) (HI.out.mono (by omega) (Nat.le_refl _)) n z)
 clear h1
 go_wp2_with (go_at_call 50;with_reducible refine KC.out.mono ?_;rintro e2 w2 ⟨rfl,y2,hy2,ha2,o2,h2,n2⟩)
 go_ret
 rw [HE.out]
 exact ⟨rfl,y2,hy2,ha2,o2,h2,HN1.out.trans n2⟩
theorem turn_4 (s:St) (n l z r a m c v p:Int):s.turn ⟨4,n,l,z,r,a,m,c,v,p⟩=s.drain n:=by
 unfold St.turn;simp
theorem c_turn4 {w:World} {own:Nat→Option Tag} {y:Lay} {s:St} (h:Cor w own y s) {K:Nat} (hI:Inv (K+64064) 0 s) (n l z r a m c v p:Int) (hS:Sm ⟨4,n,l,z,r,a,m,c,v,p⟩) :
  Calls Tryz.prog 32 #[ptr y.c,.agg #[.int .i64 4,.int .i64 n,.int .i64 l,.int .i64 z,.int .i64 r,.int .i64 a,.int .i64 m,.int .i64 c,.int .i64 v,.int .i64 p]] w fun e w'=>e=.returned (.int .i64 (s.turn ⟨4,n,l,z,r,a,m,c,v,p⟩).2)∧Ty w own y (s.turn ⟨4,n,l,z,r,a,m,c,v,p⟩).1 w':=by
 have hb0:Below w.heap.size w (w.alloc (.cells #[.int .i64 4,.int .i64 n,.int .i64 l,.int .i64 z,.int .i64 r,.int .i64 a,.int .i64 m,.int .i64 c,.int .i64 v,.int .i64 p] 28)):=(Below.refl _ _).alloc (Nat.le_refl _) _
 have hrow0:=heap_alloc_new w (.cells #[.int .i64 4,.int .i64 n,.int .i64 l,.int .i64 z,.int .i64 r,.int .i64 a,.int .i64 m,.int .i64 c,.int .i64 v,.int .i64 p] 28)
 have HI:=Lib.hid hI
 have HE:=Lib.hid (turn_4 s n l z r a m c v p)
 have HS:=Lib.hid hS
 clear hI
 go_enter Tryz.func32,Tryz.ntmps32
 go_upto_region 1 with (fail)
 have h1:=h.below hb0
 have HN1:=Lib.hid (Nx.below own hb0)
 obtain ⟨Hb,hHb⟩:∃ Hb,w.heap.size=Hb:=⟨_,rfl⟩
 rw [hHb] at hrow0
 rw [hHb]
 have HR1:=Lib.hid hrow0
 clear hrow0 hb0 hHb h
 generalize w.alloc (.cells #[.int .i64 4,.int .i64 n,.int .i64 l,.int .i64 z,.int .i64 r,.int .i64 a,.int .i64 m,.int .i64 c,.int .i64 v,.int .i64 p] 28)=w1 at h1 HN1 HR1 ⊢
 have y0:w1.cell? ⟨Hb,0,none⟩=some (.int .i64 4):=cell_of_row _ _ 0 _ _ _ HR1.out
 have y1:w1.cell? ⟨Hb,1,none⟩=some (.int .i64 n):=cell_of_row _ _ 1 _ _ _ HR1.out
 have y2:w1.cell? ⟨Hb,2,none⟩=some (.int .i64 l):=cell_of_row _ _ 2 _ _ _ HR1.out
 have y3:w1.cell? ⟨Hb,3,none⟩=some (.int .i64 z):=cell_of_row _ _ 3 _ _ _ HR1.out
 have y4:w1.cell? ⟨Hb,4,none⟩=some (.int .i64 r):=cell_of_row _ _ 4 _ _ _ HR1.out
 have y5:w1.cell? ⟨Hb,5,none⟩=some (.int .i64 a):=cell_of_row _ _ 5 _ _ _ HR1.out
 have y6:w1.cell? ⟨Hb,6,none⟩=some (.int .i64 m):=cell_of_row _ _ 6 _ _ _ HR1.out
 have y7:w1.cell? ⟨Hb,7,none⟩=some (.int .i64 c):=cell_of_row _ _ 7 _ _ _ HR1.out
 have y8:w1.cell? ⟨Hb,8,none⟩=some (.int .i64 v):=cell_of_row _ _ 8 _ _ _ HR1.out
 have y9:w1.cell? ⟨Hb,9,none⟩=some (.int .i64 p):=cell_of_row _ _ 9 _ _ _ HR1.out
 have KC:=Lib.hid (c_drainHost h1 (K:=K) (HI.out.mono (by omega) (Nat.le_refl _)) n)
 clear h1
 go_wp2_with (go_at_call 51;with_reducible refine KC.out.mono ?_;rintro e2 w2 ⟨rfl,y2,hy2,ha2,o2,h2,n2⟩)
 go_ret
 rw [HE.out]
 exact ⟨rfl,y2,hy2,ha2,o2,h2,HN1.out.trans n2⟩
theorem turn_5 (s:St) (n l z r a m c v p:Int):s.turn ⟨5,n,l,z,r,a,m,c,v,p⟩=s.fail n:=by
 unfold St.turn;simp
theorem c_turn5 {w:World} {own:Nat→Option Tag} {y:Lay} {s:St} (h:Cor w own y s) {K:Nat} (hI:Inv (K+64064) 0 s) (n l z r a m c v p:Int) (hS:Sm ⟨5,n,l,z,r,a,m,c,v,p⟩) :
  Calls Tryz.prog 32 #[ptr y.c,.agg #[.int .i64 5,.int .i64 n,.int .i64 l,.int .i64 z,.int .i64 r,.int .i64 a,.int .i64 m,.int .i64 c,.int .i64 v,.int .i64 p]] w fun e w'=>e=.returned (.int .i64 (s.turn ⟨5,n,l,z,r,a,m,c,v,p⟩).2)∧Ty w own y (s.turn ⟨5,n,l,z,r,a,m,c,v,p⟩).1 w':=by
 have hb0:Below w.heap.size w (w.alloc (.cells #[.int .i64 5,.int .i64 n,.int .i64 l,.int .i64 z,.int .i64 r,.int .i64 a,.int .i64 m,.int .i64 c,.int .i64 v,.int .i64 p] 28)):=(Below.refl _ _).alloc (Nat.le_refl _) _
 have hrow0:=heap_alloc_new w (.cells #[.int .i64 5,.int .i64 n,.int .i64 l,.int .i64 z,.int .i64 r,.int .i64 a,.int .i64 m,.int .i64 c,.int .i64 v,.int .i64 p] 28)
 have HI:=Lib.hid hI
 have HE:=Lib.hid (turn_5 s n l z r a m c v p)
 have HS:=Lib.hid hS
 clear hI
 go_enter Tryz.func32,Tryz.ntmps32
 go_upto_region 1 with (fail)
 have h1:=h.below hb0
 have HN1:=Lib.hid (Nx.below own hb0)
 obtain ⟨Hb,hHb⟩:∃ Hb,w.heap.size=Hb:=⟨_,rfl⟩
 rw [hHb] at hrow0
 rw [hHb]
 have HR1:=Lib.hid hrow0
 clear hrow0 hb0 hHb h
 generalize w.alloc (.cells #[.int .i64 5,.int .i64 n,.int .i64 l,.int .i64 z,.int .i64 r,.int .i64 a,.int .i64 m,.int .i64 c,.int .i64 v,.int .i64 p] 28)=w1 at h1 HN1 HR1 ⊢
 have y0:w1.cell? ⟨Hb,0,none⟩=some (.int .i64 5):=cell_of_row _ _ 0 _ _ _ HR1.out
 have y1:w1.cell? ⟨Hb,1,none⟩=some (.int .i64 n):=cell_of_row _ _ 1 _ _ _ HR1.out
 have y2:w1.cell? ⟨Hb,2,none⟩=some (.int .i64 l):=cell_of_row _ _ 2 _ _ _ HR1.out
 have y3:w1.cell? ⟨Hb,3,none⟩=some (.int .i64 z):=cell_of_row _ _ 3 _ _ _ HR1.out
 have y4:w1.cell? ⟨Hb,4,none⟩=some (.int .i64 r):=cell_of_row _ _ 4 _ _ _ HR1.out
 have y5:w1.cell? ⟨Hb,5,none⟩=some (.int .i64 a):=cell_of_row _ _ 5 _ _ _ HR1.out
 have y6:w1.cell? ⟨Hb,6,none⟩=some (.int .i64 m):=cell_of_row _ _ 6 _ _ _ HR1.out
 have y7:w1.cell? ⟨Hb,7,none⟩=some (.int .i64 c):=cell_of_row _ _ 7 _ _ _ HR1.out
 have y8:w1.cell? ⟨Hb,8,none⟩=some (.int .i64 v):=cell_of_row _ _ 8 _ _ _ HR1.out
 have y9:w1.cell? ⟨Hb,9,none⟩=some (.int .i64 p):=cell_of_row _ _ 9 _ _ _ HR1.out
 have KC:=Lib.hid (c_failHost h1 (K:=K) (HI.out.mono (by omega) (Nat.le_refl _)) n)
 clear h1
 go_wp2_with (go_at_call 52;with_reducible refine KC.out.mono ?_;rintro e2 w2 ⟨rfl,y2,hy2,ha2,o2,h2,n2⟩)
 go_ret
 rw [HE.out]
 exact ⟨rfl,y2,hy2,ha2,o2,h2,HN1.out.trans n2⟩
theorem turn_7 (s:St) (n l z r a m c v p:Int):s.turn ⟨7,n,l,z,r,a,m,c,v,p⟩=s.tend ⟨7,n,l,z,r,a,m,c,v,p⟩:=by
 unfold St.turn;simp
theorem c_turn7 {w:World} {own:Nat→Option Tag} {y:Lay} {s:St} (h:Cor w own y s) {K:Nat} (hI:Inv (K+64064) 0 s) (n l z r a m c v p:Int) (hS:Sm ⟨7,n,l,z,r,a,m,c,v,p⟩) :
  Calls Tryz.prog 32 #[ptr y.c,.agg #[.int .i64 7,.int .i64 n,.int .i64 l,.int .i64 z,.int .i64 r,.int .i64 a,.int .i64 m,.int .i64 c,.int .i64 v,.int .i64 p]] w fun e w'=>e=.returned (.int .i64 (s.turn ⟨7,n,l,z,r,a,m,c,v,p⟩).2)∧Ty w own y (s.turn ⟨7,n,l,z,r,a,m,c,v,p⟩).1 w':=by
 have hb0:Below w.heap.size w (w.alloc (.cells #[.int .i64 7,.int .i64 n,.int .i64 l,.int .i64 z,.int .i64 r,.int .i64 a,.int .i64 m,.int .i64 c,.int .i64 v,.int .i64 p] 28)):=(Below.refl _ _).alloc (Nat.le_refl _) _
 have hrow0:=heap_alloc_new w (.cells #[.int .i64 7,.int .i64 n,.int .i64 l,.int .i64 z,.int .i64 r,.int .i64 a,.int .i64 m,.int .i64 c,.int .i64 v,.int .i64 p] 28)
 have HI:=Lib.hid hI
 have HE:=Lib.hid (turn_7 s n l z r a m c v p)
 have HS:=Lib.hid hS
 clear hI
 go_enter Tryz.func32,Tryz.ntmps32
 go_upto_region 1 with (fail)
 have h1:=h.below hb0
 have HN1:=Lib.hid (Nx.below own hb0)
 obtain ⟨Hb,hHb⟩:∃ Hb,w.heap.size=Hb:=⟨_,rfl⟩
 rw [hHb] at hrow0
 rw [hHb]
 have HR1:=Lib.hid hrow0
 clear hrow0 hb0 hHb h
 generalize w.alloc (.cells #[.int .i64 7,.int .i64 n,.int .i64 l,.int .i64 z,.int .i64 r,.int .i64 a,.int .i64 m,.int .i64 c,.int .i64 v,.int .i64 p] 28)=w1 at h1 HN1 HR1 ⊢
 have y0:w1.cell? ⟨Hb,0,none⟩=some (.int .i64 7):=cell_of_row _ _ 0 _ _ _ HR1.out
 have y1:w1.cell? ⟨Hb,1,none⟩=some (.int .i64 n):=cell_of_row _ _ 1 _ _ _ HR1.out
 have y2:w1.cell? ⟨Hb,2,none⟩=some (.int .i64 l):=cell_of_row _ _ 2 _ _ _ HR1.out
 have y3:w1.cell? ⟨Hb,3,none⟩=some (.int .i64 z):=cell_of_row _ _ 3 _ _ _ HR1.out
 have y4:w1.cell? ⟨Hb,4,none⟩=some (.int .i64 r):=cell_of_row _ _ 4 _ _ _ HR1.out
 have y5:w1.cell? ⟨Hb,5,none⟩=some (.int .i64 a):=cell_of_row _ _ 5 _ _ _ HR1.out
 have y6:w1.cell? ⟨Hb,6,none⟩=some (.int .i64 m):=cell_of_row _ _ 6 _ _ _ HR1.out
 have y7:w1.cell? ⟨Hb,7,none⟩=some (.int .i64 c):=cell_of_row _ _ 7 _ _ _ HR1.out
 have y8:w1.cell? ⟨Hb,8,none⟩=some (.int .i64 v):=cell_of_row _ _ 8 _ _ _ HR1.out
 have y9:w1.cell? ⟨Hb,9,none⟩=some (.int .i64 p):=cell_of_row _ _ 9 _ _ _ HR1.out
 have KC:=Lib.hid (c_tend h1 (K:=K) (HI.out.mono (by omega) (Nat.le_refl _)) 7 n l z r a m c v p hS.wf)
 clear h1
 go_wp2_with (go_at_call 53;with_reducible refine KC.out.mono ?_;rintro e2 w2 ⟨rfl,y2,hy2,ha2,o2,h2,n2⟩)
 go_ret
 rw [HE.out]
 exact ⟨rfl,y2,hy2,ha2,o2,h2,HN1.out.trans n2⟩
theorem turn_8 (s:St) (n l z r a m c v p:Int):s.turn ⟨8,n,l,z,r,a,m,c,v,p⟩=s.tend ⟨8,n,l,z,r,a,m,c,v,p⟩:=by
 unfold St.turn;simp
theorem c_turn8 {w:World} {own:Nat→Option Tag} {y:Lay} {s:St} (h:Cor w own y s) {K:Nat} (hI:Inv (K+64064) 0 s) (n l z r a m c v p:Int) (hS:Sm ⟨8,n,l,z,r,a,m,c,v,p⟩) :
  Calls Tryz.prog 32 #[ptr y.c,.agg #[.int .i64 8,.int .i64 n,.int .i64 l,.int .i64 z,.int .i64 r,.int .i64 a,.int .i64 m,.int .i64 c,.int .i64 v,.int .i64 p]] w fun e w'=>e=.returned (.int .i64 (s.turn ⟨8,n,l,z,r,a,m,c,v,p⟩).2)∧Ty w own y (s.turn ⟨8,n,l,z,r,a,m,c,v,p⟩).1 w':=by
 have hb0:Below w.heap.size w (w.alloc (.cells #[.int .i64 8,.int .i64 n,.int .i64 l,.int .i64 z,.int .i64 r,.int .i64 a,.int .i64 m,.int .i64 c,.int .i64 v,.int .i64 p] 28)):=(Below.refl _ _).alloc (Nat.le_refl _) _
 have hrow0:=heap_alloc_new w (.cells #[.int .i64 8,.int .i64 n,.int .i64 l,.int .i64 z,.int .i64 r,.int .i64 a,.int .i64 m,.int .i64 c,.int .i64 v,.int .i64 p] 28)
 have HI:=Lib.hid hI
 have HE:=Lib.hid (turn_8 s n l z r a m c v p)
 have HS:=Lib.hid hS
 clear hI
 go_enter Tryz.func32,Tryz.ntmps32
 go_upto_region 1 with (fail)
 have h1:=h.below hb0
 have HN1:=Lib.hid (Nx.below own hb0)
 obtain ⟨Hb,hHb⟩:∃ Hb,w.heap.size=Hb:=⟨_,rfl⟩
 rw [hHb] at hrow0
 rw [hHb]
 have HR1:=Lib.hid hrow0
 clear hrow0 hb0 hHb h
 generalize w.alloc (.cells #[.int .i64 8,.int .i64 n,.int .i64 l,.int .i64 z,.int .i64 r,.int .i64 a,.int .i64 m,.int .i64 c,.int .i64 v,.int .i64 p] 28)=w1 at h1 HN1 HR1 ⊢
 have y0:w1.cell? ⟨Hb,0,none⟩=some (.int .i64 8):=cell_of_row _ _ 0 _ _ _ HR1.out
 have y1:w1.cell? ⟨Hb,1,none⟩=some (.int .i64 n):=cell_of_row _ _ 1 _ _ _ HR1.out
 have y2:w1.cell? ⟨Hb,2,none⟩=some (.int .i64 l):=cell_of_row _ _ 2 _ _ _ HR1.out
 have y3:w1.cell? ⟨Hb,3,none⟩=some (.int .i64 z):=cell_of_row _ _ 3 _ _ _ HR1.out
 have y4:w1.cell? ⟨Hb,4,none⟩=some (.int .i64 r):=cell_of_row _ _ 4 _ _ _ HR1.out
 have y5:w1.cell? ⟨Hb,5,none⟩=some (.int .i64 a):=cell_of_row _ _ 5 _ _ _ HR1.out
 have y6:w1.cell? ⟨Hb,6,none⟩=some (.int .i64 m):=cell_of_row _ _ 6 _ _ _ HR1.out
 have y7:w1.cell? ⟨Hb,7,none⟩=some (.int .i64 c):=cell_of_row _ _ 7 _ _ _ HR1.out
 have y8:w1.cell? ⟨Hb,8,none⟩=some (.int .i64 v):=cell_of_row _ _ 8 _ _ _ HR1.out
 have y9:w1.cell? ⟨Hb,9,none⟩=some (.int .i64 p):=cell_of_row _ _ 9 _ _ _ HR1.out
 have KC:=Lib.hid (c_tend h1 (K:=K) (HI.out.mono (by omega) (Nat.le_refl _)) 8 n l z r a m c v p hS.wf)
 clear h1
 go_wp2_with (go_at_call 53;with_reducible refine KC.out.mono ?_;rintro e2 w2 ⟨rfl,y2,hy2,ha2,o2,h2,n2⟩)
 go_ret
 rw [HE.out]
 exact ⟨rfl,y2,hy2,ha2,o2,h2,HN1.out.trans n2⟩
theorem turn_9 (s:St) (n l z r a m c v p:Int):s.turn ⟨9,n,l,z,r,a,m,c,v,p⟩=s.tend ⟨9,n,l,z,r,a,m,c,v,p⟩:=by
 unfold St.turn;simp
theorem c_turn9 {w:World} {own:Nat→Option Tag} {y:Lay} {s:St} (h:Cor w own y s) {K:Nat} (hI:Inv (K+64064) 0 s) (n l z r a m c v p:Int) (hS:Sm ⟨9,n,l,z,r,a,m,c,v,p⟩) :
  Calls Tryz.prog 32 #[ptr y.c,.agg #[.int .i64 9,.int .i64 n,.int .i64 l,.int .i64 z,.int .i64 r,.int .i64 a,.int .i64 m,.int .i64 c,.int .i64 v,.int .i64 p]] w fun e w'=>e=.returned (.int .i64 (s.turn ⟨9,n,l,z,r,a,m,c,v,p⟩).2)∧Ty w own y (s.turn ⟨9,n,l,z,r,a,m,c,v,p⟩).1 w':=by
 have hb0:Below w.heap.size w (w.alloc (.cells #[.int .i64 9,.int .i64 n,.int .i64 l,.int .i64 z,.int .i64 r,.int .i64 a,.int .i64 m,.int .i64 c,.int .i64 v,.int .i64 p] 28)):=(Below.refl _ _).alloc (Nat.le_refl _) _
 have hrow0:=heap_alloc_new w (.cells #[.int .i64 9,.int .i64 n,.int .i64 l,.int .i64 z,.int .i64 r,.int .i64 a,.int .i64 m,.int .i64 c,.int .i64 v,.int .i64 p] 28)
 have HI:=Lib.hid hI
 have HE:=Lib.hid (turn_9 s n l z r a m c v p)
 have HS:=Lib.hid hS
 clear hI
 go_enter Tryz.func32,Tryz.ntmps32
 go_upto_region 1 with (fail)
 have h1:=h.below hb0
 have HN1:=Lib.hid (Nx.below own hb0)
 obtain ⟨Hb,hHb⟩:∃ Hb,w.heap.size=Hb:=⟨_,rfl⟩
 rw [hHb] at hrow0
 rw [hHb]
 have HR1:=Lib.hid hrow0
 clear hrow0 hb0 hHb h
 generalize w.alloc (.cells #[.int .i64 9,.int .i64 n,.int .i64 l,.int .i64 z,.int .i64 r,.int .i64 a,.int .i64 m,.int .i64 c,.int .i64 v,.int .i64 p] 28)=w1 at h1 HN1 HR1 ⊢
 have y0:w1.cell? ⟨Hb,0,none⟩=some (.int .i64 9):=cell_of_row _ _ 0 _ _ _ HR1.out
 have y1:w1.cell? ⟨Hb,1,none⟩=some (.int .i64 n):=cell_of_row _ _ 1 _ _ _ HR1.out
 have y2:w1.cell? ⟨Hb,2,none⟩=some (.int .i64 l):=cell_of_row _ _ 2 _ _ _ HR1.out
 have y3:w1.cell? ⟨Hb,3,none⟩=some (.int .i64 z):=cell_of_row _ _ 3 _ _ _ HR1.out
 have y4:w1.cell? ⟨Hb,4,none⟩=some (.int .i64 r):=cell_of_row _ _ 4 _ _ _ HR1.out
 have y5:w1.cell? ⟨Hb,5,none⟩=some (.int .i64 a):=cell_of_row _ _ 5 _ _ _ HR1.out
 have y6:w1.cell? ⟨Hb,6,none⟩=some (.int .i64 m):=cell_of_row _ _ 6 _ _ _ HR1.out
 have y7:w1.cell? ⟨Hb,7,none⟩=some (.int .i64 c):=cell_of_row _ _ 7 _ _ _ HR1.out
 have y8:w1.cell? ⟨Hb,8,none⟩=some (.int .i64 v):=cell_of_row _ _ 8 _ _ _ HR1.out
 have y9:w1.cell? ⟨Hb,9,none⟩=some (.int .i64 p):=cell_of_row _ _ 9 _ _ _ HR1.out
 have KC:=Lib.hid (c_tend h1 (K:=K) (HI.out.mono (by omega) (Nat.le_refl _)) 9 n l z r a m c v p hS.wf)
 clear h1
 go_wp2_with (go_at_call 53;with_reducible refine KC.out.mono ?_;rintro e2 w2 ⟨rfl,y2,hy2,ha2,o2,h2,n2⟩)
 go_ret
 rw [HE.out]
 exact ⟨rfl,y2,hy2,ha2,o2,h2,HN1.out.trans n2⟩
theorem answer_call (s:St) (n l z r a m c v p:Int):s.answer ⟨6,n,l,z,r,a,m,c,v,p⟩=s.call n:=by unfold St.answer;rw [if_pos rfl]
theorem answer_ok {s:St} {e:Ev} (hk:e.k≠6) (h:(s.turn e).2=0):s.answer e=((s.turn e).1,(0,0,0,0)):=by unfold St.answer;rw [if_neg hk,if_pos h]
theorem answer_no {s:St} {e:Ev} (hk:e.k≠6) (h:(s.turn e).2≠0):s.answer e=((s.turn e).1,refused (s.turn e).2):=by unfold St.answer;rw [if_neg hk,if_neg h]
theorem two_new (w:World) (A B:Obj):((w.alloc A).alloc B).heap[w.heap.size]?=some A∧((w.alloc A).alloc B).heap[w.heap.size+1]?=some B:=by
 obtain ⟨a,b,_,_,_⟩:=three w A B B
 have hb:Below ((w.alloc A).alloc B).heap.size ((w.alloc A).alloc B) (((w.alloc A).alloc B).alloc B):=(Below.refl _ _).alloc (Nat.le_refl _) _
 have hs:((w.alloc A).alloc B).heap.size=w.heap.size+2:=by rw [World.size_alloc,World.size_alloc]
 exact ⟨by rw [←hb.block _ (by omega)];exact a,by rw [←hb.block _ (by omega)];exact b⟩
theorem c_answer6 {w:World} {own:Nat→Option Tag} {y:Lay} {s:St} (h:Cor w own y s) {K:Nat} (hI:Inv (K+64064) 0 s) (n l z r a m c v p:Int) (hS:Sm ⟨6,n,l,z,r,a,m,c,v,p⟩) :
  Calls Tryz.prog 18 #[ptr y.c,.agg #[.int .i64 6,.int .i64 n,.int .i64 l,.int .i64 z,.int .i64 r,.int .i64 a,.int .i64 m,.int .i64 c,.int .i64 v,.int .i64 p]] w fun e w'=>e=.returned (avl (s.answer ⟨6,n,l,z,r,a,m,c,v,p⟩).2)∧Ty w own y (s.answer ⟨6,n,l,z,r,a,m,c,v,p⟩).1 w':=by
 rw [answer_call]
 have HWN:=Lib.hid hS.wf
 obtain ⟨an,han⟩:∃ an,(s.call n).2=an:=⟨_,rfl⟩
 obtain ⟨b1,b2,b3,b4⟩:=an
 rw [han]
 have HAN:=Lib.hid han
 clear han
 have hb0:Below w.heap.size w ((w.alloc (.cells #[.int .i64 6,.int .i64 n,.int .i64 l,.int .i64 z,.int .i64 r,.int .i64 a,.int .i64 m,.int .i64 c,.int .i64 v,.int .i64 p] 28)).alloc (.cells #[.int .i64 0,.int .i64 0,.int .i64 0,.int .i64 0] 36)):=((Below.refl _ _).alloc (Nat.le_refl _) _).alloc (by rw [World.size_alloc];omega) _
 have hrow0:((w.alloc (.cells #[.int .i64 6,.int .i64 n,.int .i64 l,.int .i64 z,.int .i64 r,.int .i64 a,.int .i64 m,.int .i64 c,.int .i64 v,.int .i64 p] 28)).alloc (.cells #[.int .i64 0,.int .i64 0,.int .i64 0,.int .i64 0] 36)).heap[w.heap.size]?=some (.cells #[.int .i64 6,.int .i64 n,.int .i64 l,.int .i64 z,.int .i64 r,.int .i64 a,.int .i64 m,.int .i64 c,.int .i64 v,.int .i64 p] 28 (0,0)):=(two_new w (.cells #[.int .i64 6,.int .i64 n,.int .i64 l,.int .i64 z,.int .i64 r,.int .i64 a,.int .i64 m,.int .i64 c,.int .i64 v,.int .i64 p] 28) (.cells #[.int .i64 0,.int .i64 0,.int .i64 0,.int .i64 0] 36)).1
 have hrow1:((w.alloc (.cells #[.int .i64 6,.int .i64 n,.int .i64 l,.int .i64 z,.int .i64 r,.int .i64 a,.int .i64 m,.int .i64 c,.int .i64 v,.int .i64 p] 28)).alloc (.cells #[.int .i64 0,.int .i64 0,.int .i64 0,.int .i64 0] 36)).heap[w.heap.size+1]?=some (ano 0 0 0 0):=(two_new w (.cells #[.int .i64 6,.int .i64 n,.int .i64 l,.int .i64 z,.int .i64 r,.int .i64 a,.int .i64 m,.int .i64 c,.int .i64 v,.int .i64 p] 28) (.cells #[.int .i64 0,.int .i64 0,.int .i64 0,.int .i64 0] 36)).2
 have hf0:=h.fresh (j:=w.heap.size+1) (by omega)
 have HI:=Lib.hid hI
 clear hI
 go_enter Tryz.func18,Tryz.ntmps18
 go_upto_region 1 with (fail)
 have h1:=h.below hb0
 have HN1:=Lib.hid (Nx.below own hb0)
 obtain ⟨Hb,hHb⟩:∃ Hb,w.heap.size=Hb:=⟨_,rfl⟩
 have HWA:=Lib.hid (show w.heap.size≤Hb+1 by omega)
 rw [hHb] at hrow0 hrow1 hf0
 rw [hHb]
 have HR1:=Lib.hid hrow0
 have HA1:=Lib.hid hrow1
 have HF1:=Lib.hid hf0
 clear hrow0 hrow1 hf0 hb0 hHb h
 generalize (w.alloc (.cells #[.int .i64 6,.int .i64 n,.int .i64 l,.int .i64 z,.int .i64 r,.int .i64 a,.int .i64 m,.int .i64 c,.int .i64 v,.int .i64 p] 28)).alloc (.cells #[.int .i64 0,.int .i64 0,.int .i64 0,.int .i64 0] 36)=w1 at h1 HN1 HR1 HA1 ⊢
 obtain ⟨Ha,hHa⟩:∃ Ha,Hb+1=Ha:=⟨_,rfl⟩
 rw [hHa] at HA1 HF1 HWA
 rw [hHa]
 clear hHa
 have y0:w1.cell? ⟨Hb,0,none⟩=some (.int .i64 6):=cell_of_row _ _ 0 _ _ _ HR1.out
 have y1:w1.cell? ⟨Hb,1,none⟩=some (.int .i64 n):=cell_of_row _ _ 1 _ _ _ HR1.out
 have y2:w1.cell? ⟨Hb,2,none⟩=some (.int .i64 l):=cell_of_row _ _ 2 _ _ _ HR1.out
 have y3:w1.cell? ⟨Hb,3,none⟩=some (.int .i64 z):=cell_of_row _ _ 3 _ _ _ HR1.out
 have y4:w1.cell? ⟨Hb,4,none⟩=some (.int .i64 r):=cell_of_row _ _ 4 _ _ _ HR1.out
 have y5:w1.cell? ⟨Hb,5,none⟩=some (.int .i64 a):=cell_of_row _ _ 5 _ _ _ HR1.out
 have y6:w1.cell? ⟨Hb,6,none⟩=some (.int .i64 m):=cell_of_row _ _ 6 _ _ _ HR1.out
 have y7:w1.cell? ⟨Hb,7,none⟩=some (.int .i64 c):=cell_of_row _ _ 7 _ _ _ HR1.out
 have y8:w1.cell? ⟨Hb,8,none⟩=some (.int .i64 v):=cell_of_row _ _ 8 _ _ _ HR1.out
 have y9:w1.cell? ⟨Hb,9,none⟩=some (.int .i64 p):=cell_of_row _ _ 9 _ _ _ HR1.out
 have kc:=c_call h1 (K:=K) (HI.out.mono (by omega) (Nat.le_refl _)) n HWN.out
 rw [HAN.out] at kc
 have KC:=Lib.hid kc
 clear kc h1
 go_wp2_with (first
  | (go_at_call 31;with_reducible refine KC.out.mono ?_;rintro e4 w4 ⟨rfl,b9,o4,h4,n4⟩;have HR4:=Lib.hid (n4.blk HF1.out HA1.out);have HF4:=Lib.hid (n4.none HF1.out (lt_of_row HA1.out));have HN4:=Lib.hid (HN1.out.trans n4);clear n4)
  | (with_reducible refine wpList_store_ans rfl (.tmp 4) (.tmp 12) rfl Ha b1 b2 b3 b4 rfl rfl 0 0 0 0 HR4 ?_;intro w6 HG6 hg6))
 refine bodyPost_ret (ret_ans (fn:=Tryz.f18) rfl rfl HG6) rfl ?_
 have o6:Only w4 w6 (fun j=>j=Ha):=Only.grown hg6 (Or.inl rfl)
 exact ⟨rfl,y.at_ b9,rfl,rfl,o4,h4.side o6 (fun j q=>by rw [q];exact HF4.out),HN4.out.side o6 (fun j q=>by rw [q];exact HWA.out)⟩
theorem c_answer0 {w:World} {own:Nat→Option Tag} {y:Lay} {s:St} (h:Cor w own y s) {K:Nat} (hI:Inv (K+64064) 0 s) (n l z r a m c v p:Int) (hS:Sm ⟨0,n,l,z,r,a,m,c,v,p⟩) :
  Calls Tryz.prog 18 #[ptr y.c,.agg #[.int .i64 0,.int .i64 n,.int .i64 l,.int .i64 z,.int .i64 r,.int .i64 a,.int .i64 m,.int .i64 c,.int .i64 v,.int .i64 p]] w fun e w'=>e=.returned (avl (s.answer ⟨0,n,l,z,r,a,m,c,v,p⟩).2)∧Ty w own y (s.answer ⟨0,n,l,z,r,a,m,c,v,p⟩).1 w':=by
 have HSM:=Lib.hid hS
 have hb0:Below w.heap.size w ((w.alloc (.cells #[.int .i64 0,.int .i64 n,.int .i64 l,.int .i64 z,.int .i64 r,.int .i64 a,.int .i64 m,.int .i64 c,.int .i64 v,.int .i64 p] 28)).alloc (.cells #[.int .i64 0,.int .i64 0,.int .i64 0,.int .i64 0] 36)):=((Below.refl _ _).alloc (Nat.le_refl _) _).alloc (by rw [World.size_alloc];omega) _
 have hrow0:((w.alloc (.cells #[.int .i64 0,.int .i64 n,.int .i64 l,.int .i64 z,.int .i64 r,.int .i64 a,.int .i64 m,.int .i64 c,.int .i64 v,.int .i64 p] 28)).alloc (.cells #[.int .i64 0,.int .i64 0,.int .i64 0,.int .i64 0] 36)).heap[w.heap.size]?=some (.cells #[.int .i64 0,.int .i64 n,.int .i64 l,.int .i64 z,.int .i64 r,.int .i64 a,.int .i64 m,.int .i64 c,.int .i64 v,.int .i64 p] 28 (0,0)):=(two_new w (.cells #[.int .i64 0,.int .i64 n,.int .i64 l,.int .i64 z,.int .i64 r,.int .i64 a,.int .i64 m,.int .i64 c,.int .i64 v,.int .i64 p] 28) (.cells #[.int .i64 0,.int .i64 0,.int .i64 0,.int .i64 0] 36)).1
 have hrow1:((w.alloc (.cells #[.int .i64 0,.int .i64 n,.int .i64 l,.int .i64 z,.int .i64 r,.int .i64 a,.int .i64 m,.int .i64 c,.int .i64 v,.int .i64 p] 28)).alloc (.cells #[.int .i64 0,.int .i64 0,.int .i64 0,.int .i64 0] 36)).heap[w.heap.size+1]?=some (ano 0 0 0 0):=(two_new w (.cells #[.int .i64 0,.int .i64 n,.int .i64 l,.int .i64 z,.int .i64 r,.int .i64 a,.int .i64 m,.int .i64 c,.int .i64 v,.int .i64 p] 28) (.cells #[.int .i64 0,.int .i64 0,.int .i64 0,.int .i64 0] 36)).2
 have hf0:=h.fresh (j:=w.heap.size+1) (by omega)
 have HI:=Lib.hid hI
 clear hI
 go_enter Tryz.func18,Tryz.ntmps18
 go_upto_region 1 with (fail)
 have h1:=h.below hb0
 have HN1:=Lib.hid (Nx.below own hb0)
 obtain ⟨Hb,hHb⟩:∃ Hb,w.heap.size=Hb:=⟨_,rfl⟩
 have HWA:=Lib.hid (show w.heap.size≤Hb+1 by omega)
 rw [hHb] at hrow0 hrow1 hf0
 rw [hHb]
 have HR1:=Lib.hid hrow0
 have HA1:=Lib.hid hrow1
 have HF1:=Lib.hid hf0
 clear hrow0 hrow1 hf0 hb0 hHb h
 generalize (w.alloc (.cells #[.int .i64 0,.int .i64 n,.int .i64 l,.int .i64 z,.int .i64 r,.int .i64 a,.int .i64 m,.int .i64 c,.int .i64 v,.int .i64 p] 28)).alloc (.cells #[.int .i64 0,.int .i64 0,.int .i64 0,.int .i64 0] 36)=w1 at h1 HN1 HR1 HA1 ⊢
 obtain ⟨Ha,hHa⟩:∃ Ha,Hb+1=Ha:=⟨_,rfl⟩
 rw [hHa] at HA1 HF1 HWA
 rw [hHa]
 clear hHa
 have y0:w1.cell? ⟨Hb,0,none⟩=some (.int .i64 0):=cell_of_row _ _ 0 _ _ _ HR1.out
 have y1:w1.cell? ⟨Hb,1,none⟩=some (.int .i64 n):=cell_of_row _ _ 1 _ _ _ HR1.out
 have y2:w1.cell? ⟨Hb,2,none⟩=some (.int .i64 l):=cell_of_row _ _ 2 _ _ _ HR1.out
 have y3:w1.cell? ⟨Hb,3,none⟩=some (.int .i64 z):=cell_of_row _ _ 3 _ _ _ HR1.out
 have y4:w1.cell? ⟨Hb,4,none⟩=some (.int .i64 r):=cell_of_row _ _ 4 _ _ _ HR1.out
 have y5:w1.cell? ⟨Hb,5,none⟩=some (.int .i64 a):=cell_of_row _ _ 5 _ _ _ HR1.out
 have y6:w1.cell? ⟨Hb,6,none⟩=some (.int .i64 m):=cell_of_row _ _ 6 _ _ _ HR1.out
 have y7:w1.cell? ⟨Hb,7,none⟩=some (.int .i64 c):=cell_of_row _ _ 7 _ _ _ HR1.out
 have y8:w1.cell? ⟨Hb,8,none⟩=some (.int .i64 v):=cell_of_row _ _ 8 _ _ _ HR1.out
 have y9:w1.cell? ⟨Hb,9,none⟩=some (.int .i64 p):=cell_of_row _ _ 9 _ _ _ HR1.out
 have kt:=c_turn0 h1 HI.out n l z r a m c v p HSM.out
 obtain ⟨x,hx⟩:∃ x,(s.turn ⟨0,n,l,z,r,a,m,c,v,p⟩).2=x:=⟨_,rfl⟩
 rw [hx] at kt
 have KT:=Lib.hid kt
 clear kt h1
 by_cases h0:x=0
 ·subst h0
  have HE:=Lib.hid (answer_ok (s:=s) (e:=⟨0,n,l,z,r,a,m,c,v,p⟩) (show (0:Int)≠6 by decide) hx)
  clear hx
  go_wp2_with (first
   | (go_at_call 32;with_reducible refine KT.out.mono ?_;rintro e4 w4 ⟨rfl,y4,hy4,ha4,o4,h4,n4⟩;have HR4:=Lib.hid (n4.blk HF1.out HA1.out);have HF4:=Lib.hid (n4.none HF1.out (lt_of_row HA1.out));have HN4:=Lib.hid (HN1.out.trans n4);have HY4:=Lib.hid (And.intro hy4 ha4);clear n4 hy4 ha4)
   | (with_reducible refine wpList_store_ans rfl (.tmp 4) (.tmp 20) rfl Ha 0 0 0 0 rfl rfl 0 0 0 0 HR4 ?_;intro w6 HG6 hg6))
  refine bodyPost_ret (ret_ans (fn:=Tryz.f18) rfl rfl HG6) rfl ?_
  rw [HE.out]
  have o6:Only w4 w6 (fun j=>j=Ha):=Only.grown hg6 (Or.inl rfl)
  exact ⟨rfl,y4,HY4.out.1,HY4.out.2,o4,h4.side o6 (fun j q=>by rw [q];exact HF4.out),HN4.out.side o6 (fun j q=>by rw [q];exact HWA.out)⟩
 ·have HE:=Lib.hid (answer_no (s:=s) (e:=⟨0,n,l,z,r,a,m,c,v,p⟩) (show (0:Int)≠6 by decide) (by rw [hx];exact h0))
  rw [hx] at HE
  have d:(x == 0)=false:=by simp [h0]
  clear hx h0
  go_wp2_with (first
   | (go_at_call 32;with_reducible refine KT.out.mono ?_;rintro e4 w4 ⟨rfl,y4,hy4,ha4,o4,h4,n4⟩;have HR4:=Lib.hid (n4.blk HF1.out HA1.out);have HF4:=Lib.hid (n4.none HF1.out (lt_of_row HA1.out));have HN4:=Lib.hid (HN1.out.trans n4);have HY4:=Lib.hid (And.intro hy4 ha4);clear n4 hy4 ha4)
   | (go_at_call 16;with_reducible refine (c_refused x w4).mono ?_;rintro e5 w5 ⟨rfl,hb5⟩;have HR5:=Lib.hid ((Only.of_below (S:=fun _=>False) hb5).blk (fun q=>q) HR4.out);have HB5:=Lib.hid hb5;clear hb5)
   | (with_reducible refine wpList_store_ans rfl (.tmp 4) (.tmp 19) rfl Ha 1 0 0 x rfl rfl 0 0 0 0 HR5 ?_;intro w6 HG6 hg6))
  refine bodyPost_ret (ret_ans (fn:=Tryz.f18) rfl rfl HG6) rfl ?_
  rw [HE.out]
  have o6:Only w5 w6 (fun j=>j=Ha):=Only.grown hg6 (Or.inl rfl)
  exact ⟨rfl,y4,HY4.out.1,HY4.out.2,o4,(h4.below HB5.out).side o6 (fun j q=>by rw [q];exact HF4.out),(HN4.out.trans (Nx.below o4 HB5.out)).side o6 (fun j q=>by rw [q];exact HWA.out)⟩
theorem c_answer1 {w:World} {own:Nat→Option Tag} {y:Lay} {s:St} (h:Cor w own y s) {K:Nat} (hI:Inv (K+64064) 0 s) (n l z r a m c v p:Int) (hS:Sm ⟨1,n,l,z,r,a,m,c,v,p⟩) :
  Calls Tryz.prog 18 #[ptr y.c,.agg #[.int .i64 1,.int .i64 n,.int .i64 l,.int .i64 z,.int .i64 r,.int .i64 a,.int .i64 m,.int .i64 c,.int .i64 v,.int .i64 p]] w fun e w'=>e=.returned (avl (s.answer ⟨1,n,l,z,r,a,m,c,v,p⟩).2)∧Ty w own y (s.answer ⟨1,n,l,z,r,a,m,c,v,p⟩).1 w':=by
 have HSM:=Lib.hid hS
 have hb0:Below w.heap.size w ((w.alloc (.cells #[.int .i64 1,.int .i64 n,.int .i64 l,.int .i64 z,.int .i64 r,.int .i64 a,.int .i64 m,.int .i64 c,.int .i64 v,.int .i64 p] 28)).alloc (.cells #[.int .i64 0,.int .i64 0,.int .i64 0,.int .i64 0] 36)):=((Below.refl _ _).alloc (Nat.le_refl _) _).alloc (by rw [World.size_alloc];omega) _
 have hrow0:((w.alloc (.cells #[.int .i64 1,.int .i64 n,.int .i64 l,.int .i64 z,.int .i64 r,.int .i64 a,.int .i64 m,.int .i64 c,.int .i64 v,.int .i64 p] 28)).alloc (.cells #[.int .i64 0,.int .i64 0,.int .i64 0,.int .i64 0] 36)).heap[w.heap.size]?=some (.cells #[.int .i64 1,.int .i64 n,.int .i64 l,.int .i64 z,.int .i64 r,.int .i64 a,.int .i64 m,.int .i64 c,.int .i64 v,.int .i64 p] 28 (0,0)):=(two_new w (.cells #[.int .i64 1,.int .i64 n,.int .i64 l,.int .i64 z,.int .i64 r,.int .i64 a,.int .i64 m,.int .i64 c,.int .i64 v,.int .i64 p] 28) (.cells #[.int .i64 0,.int .i64 0,.int .i64 0,.int .i64 0] 36)).1
 have hrow1:((w.alloc (.cells #[.int .i64 1,.int .i64 n,.int .i64 l,.int .i64 z,.int .i64 r,.int .i64 a,.int .i64 m,.int .i64 c,.int .i64 v,.int .i64 p] 28)).alloc (.cells #[.int .i64 0,.int .i64 0,.int .i64 0,.int .i64 0] 36)).heap[w.heap.size+1]?=some (ano 0 0 0 0):=(two_new w (.cells #[.int .i64 1,.int .i64 n,.int .i64 l,.int .i64 z,.int .i64 r,.int .i64 a,.int .i64 m,.int .i64 c,.int .i64 v,.int .i64 p] 28) (.cells #[.int .i64 0,.int .i64 0,.int .i64 0,.int .i64 0] 36)).2
 have hf0:=h.fresh (j:=w.heap.size+1) (by omega)
 have HI:=Lib.hid hI
 clear hI
 go_enter Tryz.func18,Tryz.ntmps18
 go_upto_region 1 with (fail)
 have h1:=h.below hb0
 have HN1:=Lib.hid (Nx.below own hb0)
 obtain ⟨Hb,hHb⟩:∃ Hb,w.heap.size=Hb:=⟨_,rfl⟩
 have HWA:=Lib.hid (show w.heap.size≤Hb+1 by omega)
 rw [hHb] at hrow0 hrow1 hf0
 rw [hHb]
 have HR1:=Lib.hid hrow0
 have HA1:=Lib.hid hrow1
 have HF1:=Lib.hid hf0
 clear hrow0 hrow1 hf0 hb0 hHb h
 generalize (w.alloc (.cells #[.int .i64 1,.int .i64 n,.int .i64 l,.int .i64 z,.int .i64 r,.int .i64 a,.int .i64 m,.int .i64 c,.int .i64 v,.int .i64 p] 28)).alloc (.cells #[.int .i64 0,.int .i64 0,.int .i64 0,.int .i64 0] 36)=w1 at h1 HN1 HR1 HA1 ⊢
 obtain ⟨Ha,hHa⟩:∃ Ha,Hb+1=Ha:=⟨_,rfl⟩
 rw [hHa] at HA1 HF1 HWA
 rw [hHa]
 clear hHa
 have y0:w1.cell? ⟨Hb,0,none⟩=some (.int .i64 1):=cell_of_row _ _ 0 _ _ _ HR1.out
 have y1:w1.cell? ⟨Hb,1,none⟩=some (.int .i64 n):=cell_of_row _ _ 1 _ _ _ HR1.out
 have y2:w1.cell? ⟨Hb,2,none⟩=some (.int .i64 l):=cell_of_row _ _ 2 _ _ _ HR1.out
 have y3:w1.cell? ⟨Hb,3,none⟩=some (.int .i64 z):=cell_of_row _ _ 3 _ _ _ HR1.out
 have y4:w1.cell? ⟨Hb,4,none⟩=some (.int .i64 r):=cell_of_row _ _ 4 _ _ _ HR1.out
 have y5:w1.cell? ⟨Hb,5,none⟩=some (.int .i64 a):=cell_of_row _ _ 5 _ _ _ HR1.out
 have y6:w1.cell? ⟨Hb,6,none⟩=some (.int .i64 m):=cell_of_row _ _ 6 _ _ _ HR1.out
 have y7:w1.cell? ⟨Hb,7,none⟩=some (.int .i64 c):=cell_of_row _ _ 7 _ _ _ HR1.out
 have y8:w1.cell? ⟨Hb,8,none⟩=some (.int .i64 v):=cell_of_row _ _ 8 _ _ _ HR1.out
 have y9:w1.cell? ⟨Hb,9,none⟩=some (.int .i64 p):=cell_of_row _ _ 9 _ _ _ HR1.out
 have kt:=c_turn1 h1 HI.out n l z r a m c v p HSM.out
 obtain ⟨x,hx⟩:∃ x,(s.turn ⟨1,n,l,z,r,a,m,c,v,p⟩).2=x:=⟨_,rfl⟩
 rw [hx] at kt
 have KT:=Lib.hid kt
 clear kt h1
 by_cases h0:x=0
 ·subst h0
  have HE:=Lib.hid (answer_ok (s:=s) (e:=⟨1,n,l,z,r,a,m,c,v,p⟩) (show (1:Int)≠6 by decide) hx)
  clear hx
  go_wp2_with (first
   | (go_at_call 32;with_reducible refine KT.out.mono ?_;rintro e4 w4 ⟨rfl,y4,hy4,ha4,o4,h4,n4⟩;have HR4:=Lib.hid (n4.blk HF1.out HA1.out);have HF4:=Lib.hid (n4.none HF1.out (lt_of_row HA1.out));have HN4:=Lib.hid (HN1.out.trans n4);have HY4:=Lib.hid (And.intro hy4 ha4);clear n4 hy4 ha4)
   | (with_reducible refine wpList_store_ans rfl (.tmp 4) (.tmp 20) rfl Ha 0 0 0 0 rfl rfl 0 0 0 0 HR4 ?_;intro w6 HG6 hg6))
  refine bodyPost_ret (ret_ans (fn:=Tryz.f18) rfl rfl HG6) rfl ?_
  rw [HE.out]
  have o6:Only w4 w6 (fun j=>j=Ha):=Only.grown hg6 (Or.inl rfl)
  exact ⟨rfl,y4,HY4.out.1,HY4.out.2,o4,h4.side o6 (fun j q=>by rw [q];exact HF4.out),HN4.out.side o6 (fun j q=>by rw [q];exact HWA.out)⟩
 ·have HE:=Lib.hid (answer_no (s:=s) (e:=⟨1,n,l,z,r,a,m,c,v,p⟩) (show (1:Int)≠6 by decide) (by rw [hx];exact h0))
  rw [hx] at HE
  have d:(x == 0)=false:=by simp [h0]
  clear hx h0
  go_wp2_with (first
   | (go_at_call 32;with_reducible refine KT.out.mono ?_;rintro e4 w4 ⟨rfl,y4,hy4,ha4,o4,h4,n4⟩;have HR4:=Lib.hid (n4.blk HF1.out HA1.out);have HF4:=Lib.hid (n4.none HF1.out (lt_of_row HA1.out));have HN4:=Lib.hid (HN1.out.trans n4);have HY4:=Lib.hid (And.intro hy4 ha4);clear n4 hy4 ha4)
   | (go_at_call 16;with_reducible refine (c_refused x w4).mono ?_;rintro e5 w5 ⟨rfl,hb5⟩;have HR5:=Lib.hid ((Only.of_below (S:=fun _=>False) hb5).blk (fun q=>q) HR4.out);have HB5:=Lib.hid hb5;clear hb5)
   | (with_reducible refine wpList_store_ans rfl (.tmp 4) (.tmp 19) rfl Ha 1 0 0 x rfl rfl 0 0 0 0 HR5 ?_;intro w6 HG6 hg6))
  refine bodyPost_ret (ret_ans (fn:=Tryz.f18) rfl rfl HG6) rfl ?_
  rw [HE.out]
  have o6:Only w5 w6 (fun j=>j=Ha):=Only.grown hg6 (Or.inl rfl)
  exact ⟨rfl,y4,HY4.out.1,HY4.out.2,o4,(h4.below HB5.out).side o6 (fun j q=>by rw [q];exact HF4.out),(HN4.out.trans (Nx.below o4 HB5.out)).side o6 (fun j q=>by rw [q];exact HWA.out)⟩
theorem c_answer2 {w:World} {own:Nat→Option Tag} {y:Lay} {s:St} (h:Cor w own y s) {K:Nat} (hI:Inv (K+64064) 0 s) (n l z r a m c v p:Int) (hS:Sm ⟨2,n,l,z,r,a,m,c,v,p⟩) :
  Calls Tryz.prog 18 #[ptr y.c,.agg #[.int .i64 2,.int .i64 n,.int .i64 l,.int .i64 z,.int .i64 r,.int .i64 a,.int .i64 m,.int .i64 c,.int .i64 v,.int .i64 p]] w fun e w'=>e=.returned (avl (s.answer ⟨2,n,l,z,r,a,m,c,v,p⟩).2)∧Ty w own y (s.answer ⟨2,n,l,z,r,a,m,c,v,p⟩).1 w':=by
 have HSM:=Lib.hid hS
 have hb0:Below w.heap.size w ((w.alloc (.cells #[.int .i64 2,.int .i64 n,.int .i64 l,.int .i64 z,.int .i64 r,.int .i64 a,.int .i64 m,.int .i64 c,.int .i64 v,.int .i64 p] 28)).alloc (.cells #[.int .i64 0,.int .i64 0,.int .i64 0,.int .i64 0] 36)):=((Below.refl _ _).alloc (Nat.le_refl _) _).alloc (by rw [World.size_alloc];omega) _
 have hrow0:((w.alloc (.cells #[.int .i64 2,.int .i64 n,.int .i64 l,.int .i64 z,.int .i64 r,.int .i64 a,.int .i64 m,.int .i64 c,.int .i64 v,.int .i64 p] 28)).alloc (.cells #[.int .i64 0,.int .i64 0,.int .i64 0,.int .i64 0] 36)).heap[w.heap.size]?=some (.cells #[.int .i64 2,.int .i64 n,.int .i64 l,.int .i64 z,.int .i64 r,.int .i64 a,.int .i64 m,.int .i64 c,.int .i64 v,.int .i64 p] 28 (0,0)):=(two_new w (.cells #[.int .i64 2,.int .i64 n,.int .i64 l,.int .i64 z,.int .i64 r,.int .i64 a,.int .i64 m,.int .i64 c,.int .i64 v,.int .i64 p] 28) (.cells #[.int .i64 0,.int .i64 0,.int .i64 0,.int .i64 0] 36)).1
 have hrow1:((w.alloc (.cells #[.int .i64 2,.int .i64 n,.int .i64 l,.int .i64 z,.int .i64 r,.int .i64 a,.int .i64 m,.int .i64 c,.int .i64 v,.int .i64 p] 28)).alloc (.cells #[.int .i64 0,.int .i64 0,.int .i64 0,.int .i64 0] 36)).heap[w.heap.size+1]?=some (ano 0 0 0 0):=(two_new w (.cells #[.int .i64 2,.int .i64 n,.int .i64 l,.int .i64 z,.int .i64 r,.int .i64 a,.int .i64 m,.int .i64 c,.int .i64 v,.int .i64 p] 28) (.cells #[.int .i64 0,.int .i64 0,.int .i64 0,.int .i64 0] 36)).2
 have hf0:=h.fresh (j:=w.heap.size+1) (by omega)
 have HI:=Lib.hid hI
 clear hI
 go_enter Tryz.func18,Tryz.ntmps18
 go_upto_region 1 with (fail)
 have h1:=h.below hb0
 have HN1:=Lib.hid (Nx.below own hb0)
 obtain ⟨Hb,hHb⟩:∃ Hb,w.heap.size=Hb:=⟨_,rfl⟩
 have HWA:=Lib.hid (show w.heap.size≤Hb+1 by omega)
 rw [hHb] at hrow0 hrow1 hf0
 rw [hHb]
 have HR1:=Lib.hid hrow0
 have HA1:=Lib.hid hrow1
 have HF1:=Lib.hid hf0
 clear hrow0 hrow1 hf0 hb0 hHb h
 generalize (w.alloc (.cells #[.int .i64 2,.int .i64 n,.int .i64 l,.int .i64 z,.int .i64 r,.int .i64 a,.int .i64 m,.int .i64 c,.int .i64 v,.int .i64 p] 28)).alloc (.cells #[.int .i64 0,.int .i64 0,.int .i64 0,.int .i64 0] 36)=w1 at h1 HN1 HR1 HA1 ⊢
 obtain ⟨Ha,hHa⟩:∃ Ha,Hb+1=Ha:=⟨_,rfl⟩
 rw [hHa] at HA1 HF1 HWA
 rw [hHa]
 clear hHa
 have y0:w1.cell? ⟨Hb,0,none⟩=some (.int .i64 2):=cell_of_row _ _ 0 _ _ _ HR1.out
 have y1:w1.cell? ⟨Hb,1,none⟩=some (.int .i64 n):=cell_of_row _ _ 1 _ _ _ HR1.out
 have y2:w1.cell? ⟨Hb,2,none⟩=some (.int .i64 l):=cell_of_row _ _ 2 _ _ _ HR1.out
 have y3:w1.cell? ⟨Hb,3,none⟩=some (.int .i64 z):=cell_of_row _ _ 3 _ _ _ HR1.out
 have y4:w1.cell? ⟨Hb,4,none⟩=some (.int .i64 r):=cell_of_row _ _ 4 _ _ _ HR1.out
 have y5:w1.cell? ⟨Hb,5,none⟩=some (.int .i64 a):=cell_of_row _ _ 5 _ _ _ HR1.out
 have y6:w1.cell? ⟨Hb,6,none⟩=some (.int .i64 m):=cell_of_row _ _ 6 _ _ _ HR1.out
 have y7:w1.cell? ⟨Hb,7,none⟩=some (.int .i64 c):=cell_of_row _ _ 7 _ _ _ HR1.out
 have y8:w1.cell? ⟨Hb,8,none⟩=some (.int .i64 v):=cell_of_row _ _ 8 _ _ _ HR1.out
 have y9:w1.cell? ⟨Hb,9,none⟩=some (.int .i64 p):=cell_of_row _ _ 9 _ _ _ HR1.out
 have kt:=c_turn2 h1 HI.out n l z r a m c v p HSM.out
 obtain ⟨x,hx⟩:∃ x,(s.turn ⟨2,n,l,z,r,a,m,c,v,p⟩).2=x:=⟨_,rfl⟩
 rw [hx] at kt
 have KT:=Lib.hid kt
 clear kt h1
 by_cases h0:x=0
 ·subst h0
  have HE:=Lib.hid (answer_ok (s:=s) (e:=⟨2,n,l,z,r,a,m,c,v,p⟩) (show (2:Int)≠6 by decide) hx)
  clear hx
  go_wp2_with (first
   | (go_at_call 32;with_reducible refine KT.out.mono ?_;rintro e4 w4 ⟨rfl,y4,hy4,ha4,o4,h4,n4⟩;have HR4:=Lib.hid (n4.blk HF1.out HA1.out);have HF4:=Lib.hid (n4.none HF1.out (lt_of_row HA1.out));have HN4:=Lib.hid (HN1.out.trans n4);have HY4:=Lib.hid (And.intro hy4 ha4);clear n4 hy4 ha4)
   | (with_reducible refine wpList_store_ans rfl (.tmp 4) (.tmp 20) rfl Ha 0 0 0 0 rfl rfl 0 0 0 0 HR4 ?_;intro w6 HG6 hg6))
  refine bodyPost_ret (ret_ans (fn:=Tryz.f18) rfl rfl HG6) rfl ?_
  rw [HE.out]
  have o6:Only w4 w6 (fun j=>j=Ha):=Only.grown hg6 (Or.inl rfl)
  exact ⟨rfl,y4,HY4.out.1,HY4.out.2,o4,h4.side o6 (fun j q=>by rw [q];exact HF4.out),HN4.out.side o6 (fun j q=>by rw [q];exact HWA.out)⟩
 ·have HE:=Lib.hid (answer_no (s:=s) (e:=⟨2,n,l,z,r,a,m,c,v,p⟩) (show (2:Int)≠6 by decide) (by rw [hx];exact h0))
  rw [hx] at HE
  have d:(x == 0)=false:=by simp [h0]
  clear hx h0
  go_wp2_with (first
   | (go_at_call 32;with_reducible refine KT.out.mono ?_;rintro e4 w4 ⟨rfl,y4,hy4,ha4,o4,h4,n4⟩;have HR4:=Lib.hid (n4.blk HF1.out HA1.out);have HF4:=Lib.hid (n4.none HF1.out (lt_of_row HA1.out));have HN4:=Lib.hid (HN1.out.trans n4);have HY4:=Lib.hid (And.intro hy4 ha4);clear n4 hy4 ha4)
   | (go_at_call 16;with_reducible refine (c_refused x w4).mono ?_;rintro e5 w5 ⟨rfl,hb5⟩;have HR5:=Lib.hid ((Only.of_below (S:=fun _=>False) hb5).blk (fun q=>q) HR4.out);have HB5:=Lib.hid hb5;clear hb5)
   | (with_reducible refine wpList_store_ans rfl (.tmp 4) (.tmp 19) rfl Ha 1 0 0 x rfl rfl 0 0 0 0 HR5 ?_;intro w6 HG6 hg6))
  refine bodyPost_ret (ret_ans (fn:=Tryz.f18) rfl rfl HG6) rfl ?_
  rw [HE.out]
  have o6:Only w5 w6 (fun j=>j=Ha):=Only.grown hg6 (Or.inl rfl)
  exact ⟨rfl,y4,HY4.out.1,HY4.out.2,o4,(h4.below HB5.out).side o6 (fun j q=>by rw [q];exact HF4.out),(HN4.out.trans (Nx.below o4 HB5.out)).side o6 (fun j q=>by rw [q];exact HWA.out)⟩
theorem c_answer3 {w:World} {own:Nat→Option Tag} {y:Lay} {s:St} (h:Cor w own y s) {K:Nat} (hI:Inv (K+64064) 0 s) (n l z r a m c v p:Int) (hS:Sm ⟨3,n,l,z,r,a,m,c,v,p⟩) :
  Calls Tryz.prog 18 #[ptr y.c,.agg #[.int .i64 3,.int .i64 n,.int .i64 l,.int .i64 z,.int .i64 r,.int .i64 a,.int .i64 m,.int .i64 c,.int .i64 v,.int .i64 p]] w fun e w'=>e=.returned (avl (s.answer ⟨3,n,l,z,r,a,m,c,v,p⟩).2)∧Ty w own y (s.answer ⟨3,n,l,z,r,a,m,c,v,p⟩).1 w':=by
 have HSM:=Lib.hid hS
 have hb0:Below w.heap.size w ((w.alloc (.cells #[.int .i64 3,.int .i64 n,.int .i64 l,.int .i64 z,.int .i64 r,.int .i64 a,.int .i64 m,.int .i64 c,.int .i64 v,.int .i64 p] 28)).alloc (.cells #[.int .i64 0,.int .i64 0,.int .i64 0,.int .i64 0] 36)):=((Below.refl _ _).alloc (Nat.le_refl _) _).alloc (by rw [World.size_alloc];omega) _
 have hrow0:((w.alloc (.cells #[.int .i64 3,.int .i64 n,.int .i64 l,.int .i64 z,.int .i64 r,.int .i64 a,.int .i64 m,.int .i64 c,.int .i64 v,.int .i64 p] 28)).alloc (.cells #[.int .i64 0,.int .i64 0,.int .i64 0,.int .i64 0] 36)).heap[w.heap.size]?=some (.cells #[.int .i64 3,.int .i64 n,.int .i64 l,.int .i64 z,.int .i64 r,.int .i64 a,.int .i64 m,.int .i64 c,.int .i64 v,.int .i64 p] 28 (0,0)):=(two_new w (.cells #[.int .i64 3,.int .i64 n,.int .i64 l,.int .i64 z,.int .i64 r,.int .i64 a,.int .i64 m,.int .i64 c,.int .i64 v,.int .i64 p] 28) (.cells #[.int .i64 0,.int .i64 0,.int .i64 0,.int .i64 0] 36)).1
 have hrow1:((w.alloc (.cells #[.int .i64 3,.int .i64 n,.int .i64 l,.int .i64 z,.int .i64 r,.int .i64 a,.int .i64 m,.int .i64 c,.int .i64 v,.int .i64 p] 28)).alloc (.cells #[.int .i64 0,.int .i64 0,.int .i64 0,.int .i64 0] 36)).heap[w.heap.size+1]?=some (ano 0 0 0 0):=(two_new w (.cells #[.int .i64 3,.int .i64 n,.int .i64 l,.int .i64 z,.int .i64 r,.int .i64 a,.int .i64 m,.int .i64 c,.int .i64 v,.int .i64 p] 28) (.cells #[.int .i64 0,.int .i64 0,.int .i64 0,.int .i64 0] 36)).2
 have hf0:=h.fresh (j:=w.heap.size+1) (by omega)
 have HI:=Lib.hid hI
 clear hI
 go_enter Tryz.func18,Tryz.ntmps18
 go_upto_region 1 with (fail)
 have h1:=h.below hb0
 have HN1:=Lib.hid (Nx.below own hb0)
 obtain ⟨Hb,hHb⟩:∃ Hb,w.heap.size=Hb:=⟨_,rfl⟩
 have HWA:=Lib.hid (show w.heap.size≤Hb+1 by omega)
 rw [hHb] at hrow0 hrow1 hf0
 rw [hHb]
 have HR1:=Lib.hid hrow0
 have HA1:=Lib.hid hrow1
 have HF1:=Lib.hid hf0
 clear hrow0 hrow1 hf0 hb0 hHb h
 generalize (w.alloc (.cells #[.int .i64 3,.int .i64 n,.int .i64 l,.int .i64 z,.int .i64 r,.int .i64 a,.int .i64 m,.int .i64 c,.int .i64 v,.int .i64 p] 28)).alloc (.cells #[.int .i64 0,.int .i64 0,.int .i64 0,.int .i64 0] 36)=w1 at h1 HN1 HR1 HA1 ⊢
 obtain ⟨Ha,hHa⟩:∃ Ha,Hb+1=Ha:=⟨_,rfl⟩
 rw [hHa] at HA1 HF1 HWA
 rw [hHa]
 clear hHa
 have y0:w1.cell? ⟨Hb,0,none⟩=some (.int .i64 3):=cell_of_row _ _ 0 _ _ _ HR1.out
 have y1:w1.cell? ⟨Hb,1,none⟩=some (.int .i64 n):=cell_of_row _ _ 1 _ _ _ HR1.out
 have y2:w1.cell? ⟨Hb,2,none⟩=some (.int .i64 l):=cell_of_row _ _ 2 _ _ _ HR1.out
 have y3:w1.cell? ⟨Hb,3,none⟩=some (.int .i64 z):=cell_of_row _ _ 3 _ _ _ HR1.out
 have y4:w1.cell? ⟨Hb,4,none⟩=some (.int .i64 r):=cell_of_row _ _ 4 _ _ _ HR1.out
 have y5:w1.cell? ⟨Hb,5,none⟩=some (.int .i64 a):=cell_of_row _ _ 5 _ _ _ HR1.out
 have y6:w1.cell? ⟨Hb,6,none⟩=some (.int .i64 m):=cell_of_row _ _ 6 _ _ _ HR1.out
 have y7:w1.cell? ⟨Hb,7,none⟩=some (.int .i64 c):=cell_of_row _ _ 7 _ _ _ HR1.out
 have y8:w1.cell? ⟨Hb,8,none⟩=some (.int .i64 v):=cell_of_row _ _ 8 _ _ _ HR1.out
 have y9:w1.cell? ⟨Hb,9,none⟩=some (.int .i64 p):=cell_of_row _ _ 9 _ _ _ HR1.out
 have kt:=c_turn3 h1 HI.out n l z r a m c v p HSM.out
 obtain ⟨x,hx⟩:∃ x,(s.turn ⟨3,n,l,z,r,a,m,c,v,p⟩).2=x:=⟨_,rfl⟩
 rw [hx] at kt
 have KT:=Lib.hid kt
 clear kt h1
 by_cases h0:x=0
 ·subst h0
  have HE:=Lib.hid (answer_ok (s:=s) (e:=⟨3,n,l,z,r,a,m,c,v,p⟩) (show (3:Int)≠6 by decide) hx)
  clear hx
  go_wp2_with (first
   | (go_at_call 32;with_reducible refine KT.out.mono ?_;rintro e4 w4 ⟨rfl,y4,hy4,ha4,o4,h4,n4⟩;have HR4:=Lib.hid (n4.blk HF1.out HA1.out);have HF4:=Lib.hid (n4.none HF1.out (lt_of_row HA1.out));have HN4:=Lib.hid (HN1.out.trans n4);have HY4:=Lib.hid (And.intro hy4 ha4);clear n4 hy4 ha4)
   | (with_reducible refine wpList_store_ans rfl (.tmp 4) (.tmp 20) rfl Ha 0 0 0 0 rfl rfl 0 0 0 0 HR4 ?_;intro w6 HG6 hg6))
  refine bodyPost_ret (ret_ans (fn:=Tryz.f18) rfl rfl HG6) rfl ?_
  rw [HE.out]
  have o6:Only w4 w6 (fun j=>j=Ha):=Only.grown hg6 (Or.inl rfl)
  exact ⟨rfl,y4,HY4.out.1,HY4.out.2,o4,h4.side o6 (fun j q=>by rw [q];exact HF4.out),HN4.out.side o6 (fun j q=>by rw [q];exact HWA.out)⟩
 ·have HE:=Lib.hid (answer_no (s:=s) (e:=⟨3,n,l,z,r,a,m,c,v,p⟩) (show (3:Int)≠6 by decide) (by rw [hx];exact h0))
  rw [hx] at HE
  have d:(x == 0)=false:=by simp [h0]
  clear hx h0
  go_wp2_with (first
   | (go_at_call 32;with_reducible refine KT.out.mono ?_;rintro e4 w4 ⟨rfl,y4,hy4,ha4,o4,h4,n4⟩;have HR4:=Lib.hid (n4.blk HF1.out HA1.out);have HF4:=Lib.hid (n4.none HF1.out (lt_of_row HA1.out));have HN4:=Lib.hid (HN1.out.trans n4);have HY4:=Lib.hid (And.intro hy4 ha4);clear n4 hy4 ha4)
   | (go_at_call 16;with_reducible refine (c_refused x w4).mono ?_;rintro e5 w5 ⟨rfl,hb5⟩;have HR5:=Lib.hid ((Only.of_below (S:=fun _=>False) hb5).blk (fun q=>q) HR4.out);have HB5:=Lib.hid hb5;clear hb5)
   | (with_reducible refine wpList_store_ans rfl (.tmp 4) (.tmp 19) rfl Ha 1 0 0 x rfl rfl 0 0 0 0 HR5 ?_;intro w6 HG6 hg6))
  refine bodyPost_ret (ret_ans (fn:=Tryz.f18) rfl rfl HG6) rfl ?_
  rw [HE.out]
  have o6:Only w5 w6 (fun j=>j=Ha):=Only.grown hg6 (Or.inl rfl)
  exact ⟨rfl,y4,HY4.out.1,HY4.out.2,o4,(h4.below HB5.out).side o6 (fun j q=>by rw [q];exact HF4.out),(HN4.out.trans (Nx.below o4 HB5.out)).side o6 (fun j q=>by rw [q];exact HWA.out)⟩
theorem c_answer4 {w:World} {own:Nat→Option Tag} {y:Lay} {s:St} (h:Cor w own y s) {K:Nat} (hI:Inv (K+64064) 0 s) (n l z r a m c v p:Int) (hS:Sm ⟨4,n,l,z,r,a,m,c,v,p⟩) :
  Calls Tryz.prog 18 #[ptr y.c,.agg #[.int .i64 4,.int .i64 n,.int .i64 l,.int .i64 z,.int .i64 r,.int .i64 a,.int .i64 m,.int .i64 c,.int .i64 v,.int .i64 p]] w fun e w'=>e=.returned (avl (s.answer ⟨4,n,l,z,r,a,m,c,v,p⟩).2)∧Ty w own y (s.answer ⟨4,n,l,z,r,a,m,c,v,p⟩).1 w':=by
 have HSM:=Lib.hid hS
 have hb0:Below w.heap.size w ((w.alloc (.cells #[.int .i64 4,.int .i64 n,.int .i64 l,.int .i64 z,.int .i64 r,.int .i64 a,.int .i64 m,.int .i64 c,.int .i64 v,.int .i64 p] 28)).alloc (.cells #[.int .i64 0,.int .i64 0,.int .i64 0,.int .i64 0] 36)):=((Below.refl _ _).alloc (Nat.le_refl _) _).alloc (by rw [World.size_alloc];omega) _
 have hrow0:((w.alloc (.cells #[.int .i64 4,.int .i64 n,.int .i64 l,.int .i64 z,.int .i64 r,.int .i64 a,.int .i64 m,.int .i64 c,.int .i64 v,.int .i64 p] 28)).alloc (.cells #[.int .i64 0,.int .i64 0,.int .i64 0,.int .i64 0] 36)).heap[w.heap.size]?=some (.cells #[.int .i64 4,.int .i64 n,.int .i64 l,.int .i64 z,.int .i64 r,.int .i64 a,.int .i64 m,.int .i64 c,.int .i64 v,.int .i64 p] 28 (0,0)):=(two_new w (.cells #[.int .i64 4,.int .i64 n,.int .i64 l,.int .i64 z,.int .i64 r,.int .i64 a,.int .i64 m,.int .i64 c,.int .i64 v,.int .i64 p] 28) (.cells #[.int .i64 0,.int .i64 0,.int .i64 0,.int .i64 0] 36)).1
 have hrow1:((w.alloc (.cells #[.int .i64 4,.int .i64 n,.int .i64 l,.int .i64 z,.int .i64 r,.int .i64 a,.int .i64 m,.int .i64 c,.int .i64 v,.int .i64 p] 28)).alloc (.cells #[.int .i64 0,.int .i64 0,.int .i64 0,.int .i64 0] 36)).heap[w.heap.size+1]?=some (ano 0 0 0 0):=(two_new w (.cells #[.int .i64 4,.int .i64 n,.int .i64 l,.int .i64 z,.int .i64 r,.int .i64 a,.int .i64 m,.int .i64 c,.int .i64 v,.int .i64 p] 28) (.cells #[.int .i64 0,.int .i64 0,.int .i64 0,.int .i64 0] 36)).2
 have hf0:=h.fresh (j:=w.heap.size+1) (by omega)
 have HI:=Lib.hid hI
 clear hI
 go_enter Tryz.func18,Tryz.ntmps18
 go_upto_region 1 with (fail)
 have h1:=h.below hb0
 have HN1:=Lib.hid (Nx.below own hb0)
 obtain ⟨Hb,hHb⟩:∃ Hb,w.heap.size=Hb:=⟨_,rfl⟩
 have HWA:=Lib.hid (show w.heap.size≤Hb+1 by omega)
 rw [hHb] at hrow0 hrow1 hf0
 rw [hHb]
 have HR1:=Lib.hid hrow0
 have HA1:=Lib.hid hrow1
 have HF1:=Lib.hid hf0
 clear hrow0 hrow1 hf0 hb0 hHb h
 generalize (w.alloc (.cells #[.int .i64 4,.int .i64 n,.int .i64 l,.int .i64 z,.int .i64 r,.int .i64 a,.int .i64 m,.int .i64 c,.int .i64 v,.int .i64 p] 28)).alloc (.cells #[.int .i64 0,.int .i64 0,.int .i64 0,.int .i64 0] 36)=w1 at h1 HN1 HR1 HA1 ⊢
 obtain ⟨Ha,hHa⟩:∃ Ha,Hb+1=Ha:=⟨_,rfl⟩
 rw [hHa] at HA1 HF1 HWA
 rw [hHa]
 clear hHa
 have y0:w1.cell? ⟨Hb,0,none⟩=some (.int .i64 4):=cell_of_row _ _ 0 _ _ _ HR1.out
 have y1:w1.cell? ⟨Hb,1,none⟩=some (.int .i64 n):=cell_of_row _ _ 1 _ _ _ HR1.out
 have y2:w1.cell? ⟨Hb,2,none⟩=some (.int .i64 l):=cell_of_row _ _ 2 _ _ _ HR1.out
 have y3:w1.cell? ⟨Hb,3,none⟩=some (.int .i64 z):=cell_of_row _ _ 3 _ _ _ HR1.out
 have y4:w1.cell? ⟨Hb,4,none⟩=some (.int .i64 r):=cell_of_row _ _ 4 _ _ _ HR1.out
 have y5:w1.cell? ⟨Hb,5,none⟩=some (.int .i64 a):=cell_of_row _ _ 5 _ _ _ HR1.out
 have y6:w1.cell? ⟨Hb,6,none⟩=some (.int .i64 m):=cell_of_row _ _ 6 _ _ _ HR1.out
 have y7:w1.cell? ⟨Hb,7,none⟩=some (.int .i64 c):=cell_of_row _ _ 7 _ _ _ HR1.out
 have y8:w1.cell? ⟨Hb,8,none⟩=some (.int .i64 v):=cell_of_row _ _ 8 _ _ _ HR1.out
 have y9:w1.cell? ⟨Hb,9,none⟩=some (.int .i64 p):=cell_of_row _ _ 9 _ _ _ HR1.out
 have kt:=c_turn4 h1 HI.out n l z r a m c v p HSM.out
 obtain ⟨x,hx⟩:∃ x,(s.turn ⟨4,n,l,z,r,a,m,c,v,p⟩).2=x:=⟨_,rfl⟩
 rw [hx] at kt
 have KT:=Lib.hid kt
 clear kt h1
 by_cases h0:x=0
 ·subst h0
  have HE:=Lib.hid (answer_ok (s:=s) (e:=⟨4,n,l,z,r,a,m,c,v,p⟩) (show (4:Int)≠6 by decide) hx)
  clear hx
  go_wp2_with (first
   | (go_at_call 32;with_reducible refine KT.out.mono ?_;rintro e4 w4 ⟨rfl,y4,hy4,ha4,o4,h4,n4⟩;have HR4:=Lib.hid (n4.blk HF1.out HA1.out);have HF4:=Lib.hid (n4.none HF1.out (lt_of_row HA1.out));have HN4:=Lib.hid (HN1.out.trans n4);have HY4:=Lib.hid (And.intro hy4 ha4);clear n4 hy4 ha4)
   | (with_reducible refine wpList_store_ans rfl (.tmp 4) (.tmp 20) rfl Ha 0 0 0 0 rfl rfl 0 0 0 0 HR4 ?_;intro w6 HG6 hg6))
  refine bodyPost_ret (ret_ans (fn:=Tryz.f18) rfl rfl HG6) rfl ?_
  rw [HE.out]
  have o6:Only w4 w6 (fun j=>j=Ha):=Only.grown hg6 (Or.inl rfl)
  exact ⟨rfl,y4,HY4.out.1,HY4.out.2,o4,h4.side o6 (fun j q=>by rw [q];exact HF4.out),HN4.out.side o6 (fun j q=>by rw [q];exact HWA.out)⟩
 ·have HE:=Lib.hid (answer_no (s:=s) (e:=⟨4,n,l,z,r,a,m,c,v,p⟩) (show (4:Int)≠6 by decide) (by rw [hx];exact h0))
  rw [hx] at HE
  have d:(x == 0)=false:=by simp [h0]
  clear hx h0
  go_wp2_with (first
   | (go_at_call 32;with_reducible refine KT.out.mono ?_;rintro e4 w4 ⟨rfl,y4,hy4,ha4,o4,h4,n4⟩;have HR4:=Lib.hid (n4.blk HF1.out HA1.out);have HF4:=Lib.hid (n4.none HF1.out (lt_of_row HA1.out));have HN4:=Lib.hid (HN1.out.trans n4);have HY4:=Lib.hid (And.intro hy4 ha4);clear n4 hy4 ha4)
   | (go_at_call 16;with_reducible refine (c_refused x w4).mono ?_;rintro e5 w5 ⟨rfl,hb5⟩;have HR5:=Lib.hid ((Only.of_below (S:=fun _=>False) hb5).blk (fun q=>q) HR4.out);have HB5:=Lib.hid hb5;clear hb5)
   | (with_reducible refine wpList_store_ans rfl (.tmp 4) (.tmp 19) rfl Ha 1 0 0 x rfl rfl 0 0 0 0 HR5 ?_;intro w6 HG6 hg6))
  refine bodyPost_ret (ret_ans (fn:=Tryz.f18) rfl rfl HG6) rfl ?_
  rw [HE.out]
  have o6:Only w5 w6 (fun j=>j=Ha):=Only.grown hg6 (Or.inl rfl)
  exact ⟨rfl,y4,HY4.out.1,HY4.out.2,o4,(h4.below HB5.out).side o6 (fun j q=>by rw [q];exact HF4.out),(HN4.out.trans (Nx.below o4 HB5.out)).side o6 (fun j q=>by rw [q];exact HWA.out)⟩
theorem c_answer5 {w:World} {own:Nat→Option Tag} {y:Lay} {s:St} (h:Cor w own y s) {K:Nat} (hI:Inv (K+64064) 0 s) (n l z r a m c v p:Int) (hS:Sm ⟨5,n,l,z,r,a,m,c,v,p⟩) :
  Calls Tryz.prog 18 #[ptr y.c,.agg #[.int .i64 5,.int .i64 n,.int .i64 l,.int .i64 z,.int .i64 r,.int .i64 a,.int .i64 m,.int .i64 c,.int .i64 v,.int .i64 p]] w fun e w'=>e=.returned (avl (s.answer ⟨5,n,l,z,r,a,m,c,v,p⟩).2)∧Ty w own y (s.answer ⟨5,n,l,z,r,a,m,c,v,p⟩).1 w':=by
 have HSM:=Lib.hid hS
 have hb0:Below w.heap.size w ((w.alloc (.cells #[.int .i64 5,.int .i64 n,.int .i64 l,.int .i64 z,.int .i64 r,.int .i64 a,.int .i64 m,.int .i64 c,.int .i64 v,.int .i64 p] 28)).alloc (.cells #[.int .i64 0,.int .i64 0,.int .i64 0,.int .i64 0] 36)):=((Below.refl _ _).alloc (Nat.le_refl _) _).alloc (by rw [World.size_alloc];omega) _
 have hrow0:((w.alloc (.cells #[.int .i64 5,.int .i64 n,.int .i64 l,.int .i64 z,.int .i64 r,.int .i64 a,.int .i64 m,.int .i64 c,.int .i64 v,.int .i64 p] 28)).alloc (.cells #[.int .i64 0,.int .i64 0,.int .i64 0,.int .i64 0] 36)).heap[w.heap.size]?=some (.cells #[.int .i64 5,.int .i64 n,.int .i64 l,.int .i64 z,.int .i64 r,.int .i64 a,.int .i64 m,.int .i64 c,.int .i64 v,.int .i64 p] 28 (0,0)):=(two_new w (.cells #[.int .i64 5,.int .i64 n,.int .i64 l,.int .i64 z,.int .i64 r,.int .i64 a,.int .i64 m,.int .i64 c,.int .i64 v,.int .i64 p] 28) (.cells #[.int .i64 0,.int .i64 0,.int .i64 0,.int .i64 0] 36)).1
 have hrow1:((w.alloc (.cells #[.int .i64 5,.int .i64 n,.int .i64 l,.int .i64 z,.int .i64 r,.int .i64 a,.int .i64 m,.int .i64 c,.int .i64 v,.int .i64 p] 28)).alloc (.cells #[.int .i64 0,.int .i64 0,.int .i64 0,.int .i64 0] 36)).heap[w.heap.size+1]?=some (ano 0 0 0 0):=(two_new w (.cells #[.int .i64 5,.int .i64 n,.int .i64 l,.int .i64 z,.int .i64 r,.int .i64 a,.int .i64 m,.int .i64 c,.int .i64 v,.int .i64 p] 28) (.cells #[.int .i64 0,.int .i64 0,.int .i64 0,.int .i64 0] 36)).2
 have hf0:=h.fresh (j:=w.heap.size+1) (by omega)
 have HI:=Lib.hid hI
 clear hI
 go_enter Tryz.func18,Tryz.ntmps18
 go_upto_region 1 with (fail)
 have h1:=h.below hb0
 have HN1:=Lib.hid (Nx.below own hb0)
 obtain ⟨Hb,hHb⟩:∃ Hb,w.heap.size=Hb:=⟨_,rfl⟩
 have HWA:=Lib.hid (show w.heap.size≤Hb+1 by omega)
 rw [hHb] at hrow0 hrow1 hf0
 rw [hHb]
 have HR1:=Lib.hid hrow0
 have HA1:=Lib.hid hrow1
 have HF1:=Lib.hid hf0
 clear hrow0 hrow1 hf0 hb0 hHb h
 generalize (w.alloc (.cells #[.int .i64 5,.int .i64 n,.int .i64 l,.int .i64 z,.int .i64 r,.int .i64 a,.int .i64 m,.int .i64 c,.int .i64 v,.int .i64 p] 28)).alloc (.cells #[.int .i64 0,.int .i64 0,.int .i64 0,.int .i64 0] 36)=w1 at h1 HN1 HR1 HA1 ⊢
 obtain ⟨Ha,hHa⟩:∃ Ha,Hb+1=Ha:=⟨_,rfl⟩
 rw [hHa] at HA1 HF1 HWA
 rw [hHa]
 clear hHa
 have y0:w1.cell? ⟨Hb,0,none⟩=some (.int .i64 5):=cell_of_row _ _ 0 _ _ _ HR1.out
 have y1:w1.cell? ⟨Hb,1,none⟩=some (.int .i64 n):=cell_of_row _ _ 1 _ _ _ HR1.out
 have y2:w1.cell? ⟨Hb,2,none⟩=some (.int .i64 l):=cell_of_row _ _ 2 _ _ _ HR1.out
 have y3:w1.cell? ⟨Hb,3,none⟩=some (.int .i64 z):=cell_of_row _ _ 3 _ _ _ HR1.out
 have y4:w1.cell? ⟨Hb,4,none⟩=some (.int .i64 r):=cell_of_row _ _ 4 _ _ _ HR1.out
 have y5:w1.cell? ⟨Hb,5,none⟩=some (.int .i64 a):=cell_of_row _ _ 5 _ _ _ HR1.out
 have y6:w1.cell? ⟨Hb,6,none⟩=some (.int .i64 m):=cell_of_row _ _ 6 _ _ _ HR1.out
 have y7:w1.cell? ⟨Hb,7,none⟩=some (.int .i64 c):=cell_of_row _ _ 7 _ _ _ HR1.out
 have y8:w1.cell? ⟨Hb,8,none⟩=some (.int .i64 v):=cell_of_row _ _ 8 _ _ _ HR1.out
 have y9:w1.cell? ⟨Hb,9,none⟩=some (.int .i64 p):=cell_of_row _ _ 9 _ _ _ HR1.out
 have kt:=c_turn5 h1 HI.out n l z r a m c v p HSM.out
 obtain ⟨x,hx⟩:∃ x,(s.turn ⟨5,n,l,z,r,a,m,c,v,p⟩).2=x:=⟨_,rfl⟩
 rw [hx] at kt
 have KT:=Lib.hid kt
 clear kt h1
 by_cases h0:x=0
 ·subst h0
  have HE:=Lib.hid (answer_ok (s:=s) (e:=⟨5,n,l,z,r,a,m,c,v,p⟩) (show (5:Int)≠6 by decide) hx)
  clear hx
  go_wp2_with (first
   | (go_at_call 32;with_reducible refine KT.out.mono ?_;rintro e4 w4 ⟨rfl,y4,hy4,ha4,o4,h4,n4⟩;have HR4:=Lib.hid (n4.blk HF1.out HA1.out);have HF4:=Lib.hid (n4.none HF1.out (lt_of_row HA1.out));have HN4:=Lib.hid (HN1.out.trans n4);have HY4:=Lib.hid (And.intro hy4 ha4);clear n4 hy4 ha4)
   | (with_reducible refine wpList_store_ans rfl (.tmp 4) (.tmp 20) rfl Ha 0 0 0 0 rfl rfl 0 0 0 0 HR4 ?_;intro w6 HG6 hg6))
  refine bodyPost_ret (ret_ans (fn:=Tryz.f18) rfl rfl HG6) rfl ?_
  rw [HE.out]
  have o6:Only w4 w6 (fun j=>j=Ha):=Only.grown hg6 (Or.inl rfl)
  exact ⟨rfl,y4,HY4.out.1,HY4.out.2,o4,h4.side o6 (fun j q=>by rw [q];exact HF4.out),HN4.out.side o6 (fun j q=>by rw [q];exact HWA.out)⟩
 ·have HE:=Lib.hid (answer_no (s:=s) (e:=⟨5,n,l,z,r,a,m,c,v,p⟩) (show (5:Int)≠6 by decide) (by rw [hx];exact h0))
  rw [hx] at HE
  have d:(x == 0)=false:=by simp [h0]
  clear hx h0
  go_wp2_with (first
   | (go_at_call 32;with_reducible refine KT.out.mono ?_;rintro e4 w4 ⟨rfl,y4,hy4,ha4,o4,h4,n4⟩;have HR4:=Lib.hid (n4.blk HF1.out HA1.out);have HF4:=Lib.hid (n4.none HF1.out (lt_of_row HA1.out));have HN4:=Lib.hid (HN1.out.trans n4);have HY4:=Lib.hid (And.intro hy4 ha4);clear n4 hy4 ha4)
   | (go_at_call 16;with_reducible refine (c_refused x w4).mono ?_;rintro e5 w5 ⟨rfl,hb5⟩;have HR5:=Lib.hid ((Only.of_below (S:=fun _=>False) hb5).blk (fun q=>q) HR4.out);have HB5:=Lib.hid hb5;clear hb5)
   | (with_reducible refine wpList_store_ans rfl (.tmp 4) (.tmp 19) rfl Ha 1 0 0 x rfl rfl 0 0 0 0 HR5 ?_;intro w6 HG6 hg6))
  refine bodyPost_ret (ret_ans (fn:=Tryz.f18) rfl rfl HG6) rfl ?_
  rw [HE.out]
  have o6:Only w5 w6 (fun j=>j=Ha):=Only.grown hg6 (Or.inl rfl)
  exact ⟨rfl,y4,HY4.out.1,HY4.out.2,o4,(h4.below HB5.out).side o6 (fun j q=>by rw [q];exact HF4.out),(HN4.out.trans (Nx.below o4 HB5.out)).side o6 (fun j q=>by rw [q];exact HWA.out)⟩
theorem c_answer7 {w:World} {own:Nat→Option Tag} {y:Lay} {s:St} (h:Cor w own y s) {K:Nat} (hI:Inv (K+64064) 0 s) (n l z r a m c v p:Int) (hS:Sm ⟨7,n,l,z,r,a,m,c,v,p⟩) :
  Calls Tryz.prog 18 #[ptr y.c,.agg #[.int .i64 7,.int .i64 n,.int .i64 l,.int .i64 z,.int .i64 r,.int .i64 a,.int .i64 m,.int .i64 c,.int .i64 v,.int .i64 p]] w fun e w'=>e=.returned (avl (s.answer ⟨7,n,l,z,r,a,m,c,v,p⟩).2)∧Ty w own y (s.answer ⟨7,n,l,z,r,a,m,c,v,p⟩).1 w':=by
 have HSM:=Lib.hid hS
 have hb0:Below w.heap.size w ((w.alloc (.cells #[.int .i64 7,.int .i64 n,.int .i64 l,.int .i64 z,.int .i64 r,.int .i64 a,.int .i64 m,.int .i64 c,.int .i64 v,.int .i64 p] 28)).alloc (.cells #[.int .i64 0,.int .i64 0,.int .i64 0,.int .i64 0] 36)):=((Below.refl _ _).alloc (Nat.le_refl _) _).alloc (by rw [World.size_alloc];omega) _
 have hrow0:((w.alloc (.cells #[.int .i64 7,.int .i64 n,.int .i64 l,.int .i64 z,.int .i64 r,.int .i64 a,.int .i64 m,.int .i64 c,.int .i64 v,.int .i64 p] 28)).alloc (.cells #[.int .i64 0,.int .i64 0,.int .i64 0,.int .i64 0] 36)).heap[w.heap.size]?=some (.cells #[.int .i64 7,.int .i64 n,.int .i64 l,.int .i64 z,.int .i64 r,.int .i64 a,.int .i64 m,.int .i64 c,.int .i64 v,.int .i64 p] 28 (0,0)):=(two_new w (.cells #[.int .i64 7,.int .i64 n,.int .i64 l,.int .i64 z,.int .i64 r,.int .i64 a,.int .i64 m,.int .i64 c,.int .i64 v,.int .i64 p] 28) (.cells #[.int .i64 0,.int .i64 0,.int .i64 0,.int .i64 0] 36)).1
 have hrow1:((w.alloc (.cells #[.int .i64 7,.int .i64 n,.int .i64 l,.int .i64 z,.int .i64 r,.int .i64 a,.int .i64 m,.int .i64 c,.int .i64 v,.int .i64 p] 28)).alloc (.cells #[.int .i64 0,.int .i64 0,.int .i64 0,.int .i64 0] 36)).heap[w.heap.size+1]?=some (ano 0 0 0 0):=(two_new w (.cells #[.int .i64 7,.int .i64 n,.int .i64 l,.int .i64 z,.int .i64 r,.int .i64 a,.int .i64 m,.int .i64 c,.int .i64 v,.int .i64 p] 28) (.cells #[.int .i64 0,.int .i64 0,.int .i64 0,.int .i64 0] 36)).2
 have hf0:=h.fresh (j:=w.heap.size+1) (by omega)
 have HI:=Lib.hid hI
 clear hI
 go_enter Tryz.func18,Tryz.ntmps18
 go_upto_region 1 with (fail)
 have h1:=h.below hb0
 have HN1:=Lib.hid (Nx.below own hb0)
 obtain ⟨Hb,hHb⟩:∃ Hb,w.heap.size=Hb:=⟨_,rfl⟩
 have HWA:=Lib.hid (show w.heap.size≤Hb+1 by omega)
 rw [hHb] at hrow0 hrow1 hf0
 rw [hHb]
 have HR1:=Lib.hid hrow0
 have HA1:=Lib.hid hrow1
 have HF1:=Lib.hid hf0
 clear hrow0 hrow1 hf0 hb0 hHb h
 generalize (w.alloc (.cells #[.int .i64 7,.int .i64 n,.int .i64 l,.int .i64 z,.int .i64 r,.int .i64 a,.int .i64 m,.int .i64 c,.int .i64 v,.int .i64 p] 28)).alloc (.cells #[.int .i64 0,.int .i64 0,.int .i64 0,.int .i64 0] 36)=w1 at h1 HN1 HR1 HA1 ⊢
 obtain ⟨Ha,hHa⟩:∃ Ha,Hb+1=Ha:=⟨_,rfl⟩
 rw [hHa] at HA1 HF1 HWA
 rw [hHa]
 clear hHa
 have y0:w1.cell? ⟨Hb,0,none⟩=some (.int .i64 7):=cell_of_row _ _ 0 _ _ _ HR1.out
 have y1:w1.cell? ⟨Hb,1,none⟩=some (.int .i64 n):=cell_of_row _ _ 1 _ _ _ HR1.out
 have y2:w1.cell? ⟨Hb,2,none⟩=some (.int .i64 l):=cell_of_row _ _ 2 _ _ _ HR1.out
 have y3:w1.cell? ⟨Hb,3,none⟩=some (.int .i64 z):=cell_of_row _ _ 3 _ _ _ HR1.out
 have y4:w1.cell? ⟨Hb,4,none⟩=some (.int .i64 r):=cell_of_row _ _ 4 _ _ _ HR1.out
 have y5:w1.cell? ⟨Hb,5,none⟩=some (.int .i64 a):=cell_of_row _ _ 5 _ _ _ HR1.out
 have y6:w1.cell? ⟨Hb,6,none⟩=some (.int .i64 m):=cell_of_row _ _ 6 _ _ _ HR1.out
 have y7:w1.cell? ⟨Hb,7,none⟩=some (.int .i64 c):=cell_of_row _ _ 7 _ _ _ HR1.out
 have y8:w1.cell? ⟨Hb,8,none⟩=some (.int .i64 v):=cell_of_row _ _ 8 _ _ _ HR1.out
 have y9:w1.cell? ⟨Hb,9,none⟩=some (.int .i64 p):=cell_of_row _ _ 9 _ _ _ HR1.out
 have kt:=c_turn7 h1 HI.out n l z r a m c v p HSM.out
 obtain ⟨x,hx⟩:∃ x,(s.turn ⟨7,n,l,z,r,a,m,c,v,p⟩).2=x:=⟨_,rfl⟩
 rw [hx] at kt
 have KT:=Lib.hid kt
 clear kt h1
 by_cases h0:x=0
 ·subst h0
  have HE:=Lib.hid (answer_ok (s:=s) (e:=⟨7,n,l,z,r,a,m,c,v,p⟩) (show (7:Int)≠6 by decide) hx)
  clear hx
  go_wp2_with (first
   | (go_at_call 32;with_reducible refine KT.out.mono ?_;rintro e4 w4 ⟨rfl,y4,hy4,ha4,o4,h4,n4⟩;have HR4:=Lib.hid (n4.blk HF1.out HA1.out);have HF4:=Lib.hid (n4.none HF1.out (lt_of_row HA1.out));have HN4:=Lib.hid (HN1.out.trans n4);have HY4:=Lib.hid (And.intro hy4 ha4);clear n4 hy4 ha4)
   | (with_reducible refine wpList_store_ans rfl (.tmp 4) (.tmp 20) rfl Ha 0 0 0 0 rfl rfl 0 0 0 0 HR4 ?_;intro w6 HG6 hg6))
  refine bodyPost_ret (ret_ans (fn:=Tryz.f18) rfl rfl HG6) rfl ?_
  rw [HE.out]
  have o6:Only w4 w6 (fun j=>j=Ha):=Only.grown hg6 (Or.inl rfl)
  exact ⟨rfl,y4,HY4.out.1,HY4.out.2,o4,h4.side o6 (fun j q=>by rw [q];exact HF4.out),HN4.out.side o6 (fun j q=>by rw [q];exact HWA.out)⟩
 ·have HE:=Lib.hid (answer_no (s:=s) (e:=⟨7,n,l,z,r,a,m,c,v,p⟩) (show (7:Int)≠6 by decide) (by rw [hx];exact h0))
  rw [hx] at HE
  have d:(x == 0)=false:=by simp [h0]
  clear hx h0
  go_wp2_with (first
   | (go_at_call 32;with_reducible refine KT.out.mono ?_;rintro e4 w4 ⟨rfl,y4,hy4,ha4,o4,h4,n4⟩;have HR4:=Lib.hid (n4.blk HF1.out HA1.out);have HF4:=Lib.hid (n4.none HF1.out (lt_of_row HA1.out));have HN4:=Lib.hid (HN1.out.trans n4);have HY4:=Lib.hid (And.intro hy4 ha4);clear n4 hy4 ha4)
   | (go_at_call 16;with_reducible refine (c_refused x w4).mono ?_;rintro e5 w5 ⟨rfl,hb5⟩;have HR5:=Lib.hid ((Only.of_below (S:=fun _=>False) hb5).blk (fun q=>q) HR4.out);have HB5:=Lib.hid hb5;clear hb5)
   | (with_reducible refine wpList_store_ans rfl (.tmp 4) (.tmp 19) rfl Ha 1 0 0 x rfl rfl 0 0 0 0 HR5 ?_;intro w6 HG6 hg6))
  refine bodyPost_ret (ret_ans (fn:=Tryz.f18) rfl rfl HG6) rfl ?_
  rw [HE.out]
  have o6:Only w5 w6 (fun j=>j=Ha):=Only.grown hg6 (Or.inl rfl)
  exact ⟨rfl,y4,HY4.out.1,HY4.out.2,o4,(h4.below HB5.out).side o6 (fun j q=>by rw [q];exact HF4.out),(HN4.out.trans (Nx.below o4 HB5.out)).side o6 (fun j q=>by rw [q];exact HWA.out)⟩
theorem c_answer8 {w:World} {own:Nat→Option Tag} {y:Lay} {s:St} (h:Cor w own y s) {K:Nat} (hI:Inv (K+64064) 0 s) (n l z r a m c v p:Int) (hS:Sm ⟨8,n,l,z,r,a,m,c,v,p⟩) :
  Calls Tryz.prog 18 #[ptr y.c,.agg #[.int .i64 8,.int .i64 n,.int .i64 l,.int .i64 z,.int .i64 r,.int .i64 a,.int .i64 m,.int .i64 c,.int .i64 v,.int .i64 p]] w fun e w'=>e=.returned (avl (s.answer ⟨8,n,l,z,r,a,m,c,v,p⟩).2)∧Ty w own y (s.answer ⟨8,n,l,z,r,a,m,c,v,p⟩).1 w':=by
 have HSM:=Lib.hid hS
 have hb0:Below w.heap.size w ((w.alloc (.cells #[.int .i64 8,.int .i64 n,.int .i64 l,.int .i64 z,.int .i64 r,.int .i64 a,.int .i64 m,.int .i64 c,.int .i64 v,.int .i64 p] 28)).alloc (.cells #[.int .i64 0,.int .i64 0,.int .i64 0,.int .i64 0] 36)):=((Below.refl _ _).alloc (Nat.le_refl _) _).alloc (by rw [World.size_alloc];omega) _
 have hrow0:((w.alloc (.cells #[.int .i64 8,.int .i64 n,.int .i64 l,.int .i64 z,.int .i64 r,.int .i64 a,.int .i64 m,.int .i64 c,.int .i64 v,.int .i64 p] 28)).alloc (.cells #[.int .i64 0,.int .i64 0,.int .i64 0,.int .i64 0] 36)).heap[w.heap.size]?=some (.cells #[.int .i64 8,.int .i64 n,.int .i64 l,.int .i64 z,.int .i64 r,.int .i64 a,.int .i64 m,.int .i64 c,.int .i64 v,.int .i64 p] 28 (0,0)):=(two_new w (.cells #[.int .i64 8,.int .i64 n,.int .i64 l,.int .i64 z,.int .i64 r,.int .i64 a,.int .i64 m,.int .i64 c,.int .i64 v,.int .i64 p] 28) (.cells #[.int .i64 0,.int .i64 0,.int .i64 0,.int .i64 0] 36)).1
 have hrow1:((w.alloc (.cells #[.int .i64 8,.int .i64 n,.int .i64 l,.int .i64 z,.int .i64 r,.int .i64 a,.int .i64 m,.int .i64 c,.int .i64 v,.int .i64 p] 28)).alloc (.cells #[.int .i64 0,.int .i64 0,.int .i64 0,.int .i64 0] 36)).heap[w.heap.size+1]?=some (ano 0 0 0 0):=(two_new w (.cells #[.int .i64 8,.int .i64 n,.int .i64 l,.int .i64 z,.int .i64 r,.int .i64 a,.int .i64 m,.int .i64 c,.int .i64 v,.int .i64 p] 28) (.cells #[.int .i64 0,.int .i64 0,.int .i64 0,.int .i64 0] 36)).2
 have hf0:=h.fresh (j:=w.heap.size+1) (by omega)
 have HI:=Lib.hid hI
 clear hI
 go_enter Tryz.func18,Tryz.ntmps18
 go_upto_region 1 with (fail)
 have h1:=h.below hb0
 have HN1:=Lib.hid (Nx.below own hb0)
 obtain ⟨Hb,hHb⟩:∃ Hb,w.heap.size=Hb:=⟨_,rfl⟩
 have HWA:=Lib.hid (show w.heap.size≤Hb+1 by omega)
 rw [hHb] at hrow0 hrow1 hf0
 rw [hHb]
 have HR1:=Lib.hid hrow0
 have HA1:=Lib.hid hrow1
 have HF1:=Lib.hid hf0
 clear hrow0 hrow1 hf0 hb0 hHb h
 generalize (w.alloc (.cells #[.int .i64 8,.int .i64 n,.int .i64 l,.int .i64 z,.int .i64 r,.int .i64 a,.int .i64 m,.int .i64 c,.int .i64 v,.int .i64 p] 28)).alloc (.cells #[.int .i64 0,.int .i64 0,.int .i64 0,.int .i64 0] 36)=w1 at h1 HN1 HR1 HA1 ⊢
 obtain ⟨Ha,hHa⟩:∃ Ha,Hb+1=Ha:=⟨_,rfl⟩
 rw [hHa] at HA1 HF1 HWA
 rw [hHa]
 clear hHa
 have y0:w1.cell? ⟨Hb,0,none⟩=some (.int .i64 8):=cell_of_row _ _ 0 _ _ _ HR1.out
 have y1:w1.cell? ⟨Hb,1,none⟩=some (.int .i64 n):=cell_of_row _ _ 1 _ _ _ HR1.out
 have y2:w1.cell? ⟨Hb,2,none⟩=some (.int .i64 l):=cell_of_row _ _ 2 _ _ _ HR1.out
 have y3:w1.cell? ⟨Hb,3,none⟩=some (.int .i64 z):=cell_of_row _ _ 3 _ _ _ HR1.out
 have y4:w1.cell? ⟨Hb,4,none⟩=some (.int .i64 r):=cell_of_row _ _ 4 _ _ _ HR1.out
 have y5:w1.cell? ⟨Hb,5,none⟩=some (.int .i64 a):=cell_of_row _ _ 5 _ _ _ HR1.out
 have y6:w1.cell? ⟨Hb,6,none⟩=some (.int .i64 m):=cell_of_row _ _ 6 _ _ _ HR1.out
 have y7:w1.cell? ⟨Hb,7,none⟩=some (.int .i64 c):=cell_of_row _ _ 7 _ _ _ HR1.out
 have y8:w1.cell? ⟨Hb,8,none⟩=some (.int .i64 v):=cell_of_row _ _ 8 _ _ _ HR1.out
 have y9:w1.cell? ⟨Hb,9,none⟩=some (.int .i64 p):=cell_of_row _ _ 9 _ _ _ HR1.out
 have kt:=c_turn8 h1 HI.out n l z r a m c v p HSM.out
 obtain ⟨x,hx⟩:∃ x,(s.turn ⟨8,n,l,z,r,a,m,c,v,p⟩).2=x:=⟨_,rfl⟩
 rw [hx] at kt
 have KT:=Lib.hid kt
 clear kt h1
 by_cases h0:x=0
 ·subst h0
  have HE:=Lib.hid (answer_ok (s:=s) (e:=⟨8,n,l,z,r,a,m,c,v,p⟩) (show (8:Int)≠6 by decide) hx)
  clear hx
  go_wp2_with (first
   | (go_at_call 32;with_reducible refine KT.out.mono ?_;rintro e4 w4 ⟨rfl,y4,hy4,ha4,o4,h4,n4⟩;have HR4:=Lib.hid (n4.blk HF1.out HA1.out);have HF4:=Lib.hid (n4.none HF1.out (lt_of_row HA1.out));have HN4:=Lib.hid (HN1.out.trans n4);have HY4:=Lib.hid (And.intro hy4 ha4);clear n4 hy4 ha4)
   | (with_reducible refine wpList_store_ans rfl (.tmp 4) (.tmp 20) rfl Ha 0 0 0 0 rfl rfl 0 0 0 0 HR4 ?_;intro w6 HG6 hg6))
  refine bodyPost_ret (ret_ans (fn:=Tryz.f18) rfl rfl HG6) rfl ?_
  rw [HE.out]
  have o6:Only w4 w6 (fun j=>j=Ha):=Only.grown hg6 (Or.inl rfl)
  exact ⟨rfl,y4,HY4.out.1,HY4.out.2,o4,h4.side o6 (fun j q=>by rw [q];exact HF4.out),HN4.out.side o6 (fun j q=>by rw [q];exact HWA.out)⟩
 ·have HE:=Lib.hid (answer_no (s:=s) (e:=⟨8,n,l,z,r,a,m,c,v,p⟩) (show (8:Int)≠6 by decide) (by rw [hx];exact h0))
  rw [hx] at HE
  have d:(x == 0)=false:=by simp [h0]
  clear hx h0
  go_wp2_with (first
   | (go_at_call 32;with_reducible refine KT.out.mono ?_;rintro e4 w4 ⟨rfl,y4,hy4,ha4,o4,h4,n4⟩;have HR4:=Lib.hid (n4.blk HF1.out HA1.out);have HF4:=Lib.hid (n4.none HF1.out (lt_of_row HA1.out));have HN4:=Lib.hid (HN1.out.trans n4);have HY4:=Lib.hid (And.intro hy4 ha4);clear n4 hy4 ha4)
   | (go_at_call 16;with_reducible refine (c_refused x w4).mono ?_;rintro e5 w5 ⟨rfl,hb5⟩;have HR5:=Lib.hid ((Only.of_below (S:=fun _=>False) hb5).blk (fun q=>q) HR4.out);have HB5:=Lib.hid hb5;clear hb5)
   | (with_reducible refine wpList_store_ans rfl (.tmp 4) (.tmp 19) rfl Ha 1 0 0 x rfl rfl 0 0 0 0 HR5 ?_;intro w6 HG6 hg6))
  refine bodyPost_ret (ret_ans (fn:=Tryz.f18) rfl rfl HG6) rfl ?_
  rw [HE.out]
  have o6:Only w5 w6 (fun j=>j=Ha):=Only.grown hg6 (Or.inl rfl)
  exact ⟨rfl,y4,HY4.out.1,HY4.out.2,o4,(h4.below HB5.out).side o6 (fun j q=>by rw [q];exact HF4.out),(HN4.out.trans (Nx.below o4 HB5.out)).side o6 (fun j q=>by rw [q];exact HWA.out)⟩
theorem c_answer9 {w:World} {own:Nat→Option Tag} {y:Lay} {s:St} (h:Cor w own y s) {K:Nat} (hI:Inv (K+64064) 0 s) (n l z r a m c v p:Int) (hS:Sm ⟨9,n,l,z,r,a,m,c,v,p⟩) :
  Calls Tryz.prog 18 #[ptr y.c,.agg #[.int .i64 9,.int .i64 n,.int .i64 l,.int .i64 z,.int .i64 r,.int .i64 a,.int .i64 m,.int .i64 c,.int .i64 v,.int .i64 p]] w fun e w'=>e=.returned (avl (s.answer ⟨9,n,l,z,r,a,m,c,v,p⟩).2)∧Ty w own y (s.answer ⟨9,n,l,z,r,a,m,c,v,p⟩).1 w':=by
 have HSM:=Lib.hid hS
 have hb0:Below w.heap.size w ((w.alloc (.cells #[.int .i64 9,.int .i64 n,.int .i64 l,.int .i64 z,.int .i64 r,.int .i64 a,.int .i64 m,.int .i64 c,.int .i64 v,.int .i64 p] 28)).alloc (.cells #[.int .i64 0,.int .i64 0,.int .i64 0,.int .i64 0] 36)):=((Below.refl _ _).alloc (Nat.le_refl _) _).alloc (by rw [World.size_alloc];omega) _
 have hrow0:((w.alloc (.cells #[.int .i64 9,.int .i64 n,.int .i64 l,.int .i64 z,.int .i64 r,.int .i64 a,.int .i64 m,.int .i64 c,.int .i64 v,.int .i64 p] 28)).alloc (.cells #[.int .i64 0,.int .i64 0,.int .i64 0,.int .i64 0] 36)).heap[w.heap.size]?=some (.cells #[.int .i64 9,.int .i64 n,.int .i64 l,.int .i64 z,.int .i64 r,.int .i64 a,.int .i64 m,.int .i64 c,.int .i64 v,.int .i64 p] 28 (0,0)):=(two_new w (.cells #[.int .i64 9,.int .i64 n,.int .i64 l,.int .i64 z,.int .i64 r,.int .i64 a,.int .i64 m,.int .i64 c,.int .i64 v,.int .i64 p] 28) (.cells #[.int .i64 0,.int .i64 0,.int .i64 0,.int .i64 0] 36)).1
 have hrow1:((w.alloc (.cells #[.int .i64 9,.int .i64 n,.int .i64 l,.int .i64 z,.int .i64 r,.int .i64 a,.int .i64 m,.int .i64 c,.int .i64 v,.int .i64 p] 28)).alloc (.cells #[.int .i64 0,.int .i64 0,.int .i64 0,.int .i64 0] 36)).heap[w.heap.size+1]?=some (ano 0 0 0 0):=(two_new w (.cells #[.int .i64 9,.int .i64 n,.int .i64 l,.int .i64 z,.int .i64 r,.int .i64 a,.int .i64 m,.int .i64 c,.int .i64 v,.int .i64 p] 28) (.cells #[.int .i64 0,.int .i64 0,.int .i64 0,.int .i64 0] 36)).2
 have hf0:=h.fresh (j:=w.heap.size+1) (by omega)
 have HI:=Lib.hid hI
 clear hI
 go_enter Tryz.func18,Tryz.ntmps18
 go_upto_region 1 with (fail)
 have h1:=h.below hb0
 have HN1:=Lib.hid (Nx.below own hb0)
 obtain ⟨Hb,hHb⟩:∃ Hb,w.heap.size=Hb:=⟨_,rfl⟩
 have HWA:=Lib.hid (show w.heap.size≤Hb+1 by omega)
 rw [hHb] at hrow0 hrow1 hf0
 rw [hHb]
 have HR1:=Lib.hid hrow0
 have HA1:=Lib.hid hrow1
 have HF1:=Lib.hid hf0
 clear hrow0 hrow1 hf0 hb0 hHb h
 generalize (w.alloc (.cells #[.int .i64 9,.int .i64 n,.int .i64 l,.int .i64 z,.int .i64 r,.int .i64 a,.int .i64 m,.int .i64 c,.int .i64 v,.int .i64 p] 28)).alloc (.cells #[.int .i64 0,.int .i64 0,.int .i64 0,.int .i64 0] 36)=w1 at h1 HN1 HR1 HA1 ⊢
 obtain ⟨Ha,hHa⟩:∃ Ha,Hb+1=Ha:=⟨_,rfl⟩
 rw [hHa] at HA1 HF1 HWA
 rw [hHa]
 clear hHa
 have y0:w1.cell? ⟨Hb,0,none⟩=some (.int .i64 9):=cell_of_row _ _ 0 _ _ _ HR1.out
 have y1:w1.cell? ⟨Hb,1,none⟩=some (.int .i64 n):=cell_of_row _ _ 1 _ _ _ HR1.out
 have y2:w1.cell? ⟨Hb,2,none⟩=some (.int .i64 l):=cell_of_row _ _ 2 _ _ _ HR1.out
 have y3:w1.cell? ⟨Hb,3,none⟩=some (.int .i64 z):=cell_of_row _ _ 3 _ _ _ HR1.out
 have y4:w1.cell? ⟨Hb,4,none⟩=some (.int .i64 r):=cell_of_row _ _ 4 _ _ _ HR1.out
 have y5:w1.cell? ⟨Hb,5,none⟩=some (.int .i64 a):=cell_of_row _ _ 5 _ _ _ HR1.out
 have y6:w1.cell? ⟨Hb,6,none⟩=some (.int .i64 m):=cell_of_row _ _ 6 _ _ _ HR1.out
 have y7:w1.cell? ⟨Hb,7,none⟩=some (.int .i64 c):=cell_of_row _ _ 7 _ _ _ HR1.out
 have y8:w1.cell? ⟨Hb,8,none⟩=some (.int .i64 v):=cell_of_row _ _ 8 _ _ _ HR1.out
 have y9:w1.cell? ⟨Hb,9,none⟩=some (.int .i64 p):=cell_of_row _ _ 9 _ _ _ HR1.out
 have kt:=c_turn9 h1 HI.out n l z r a m c v p HSM.out
 obtain ⟨x,hx⟩:∃ x,(s.turn ⟨9,n,l,z,r,a,m,c,v,p⟩).2=x:=⟨_,rfl⟩
 rw [hx] at kt
 have KT:=Lib.hid kt
 clear kt h1
 by_cases h0:x=0
 ·subst h0
  have HE:=Lib.hid (answer_ok (s:=s) (e:=⟨9,n,l,z,r,a,m,c,v,p⟩) (show (9:Int)≠6 by decide) hx)
  clear hx
  go_wp2_with (first
   | (go_at_call 32;with_reducible refine KT.out.mono ?_;rintro e4 w4 ⟨rfl,y4,hy4,ha4,o4,h4,n4⟩;have HR4:=Lib.hid (n4.blk HF1.out HA1.out);have HF4:=Lib.hid (n4.none HF1.out (lt_of_row HA1.out));have HN4:=Lib.hid (HN1.out.trans n4);have HY4:=Lib.hid (And.intro hy4 ha4);clear n4 hy4 ha4)
   | (with_reducible refine wpList_store_ans rfl (.tmp 4) (.tmp 20) rfl Ha 0 0 0 0 rfl rfl 0 0 0 0 HR4 ?_;intro w6 HG6 hg6))
  refine bodyPost_ret (ret_ans (fn:=Tryz.f18) rfl rfl HG6) rfl ?_
  rw [HE.out]
  have o6:Only w4 w6 (fun j=>j=Ha):=Only.grown hg6 (Or.inl rfl)
  exact ⟨rfl,y4,HY4.out.1,HY4.out.2,o4,h4.side o6 (fun j q=>by rw [q];exact HF4.out),HN4.out.side o6 (fun j q=>by rw [q];exact HWA.out)⟩
 ·have HE:=Lib.hid (answer_no (s:=s) (e:=⟨9,n,l,z,r,a,m,c,v,p⟩) (show (9:Int)≠6 by decide) (by rw [hx];exact h0))
  rw [hx] at HE
  have d:(x == 0)=false:=by simp [h0]
  clear hx h0
  go_wp2_with (first
   | (go_at_call 32;with_reducible refine KT.out.mono ?_;rintro e4 w4 ⟨rfl,y4,hy4,ha4,o4,h4,n4⟩;have HR4:=Lib.hid (n4.blk HF1.out HA1.out);have HF4:=Lib.hid (n4.none HF1.out (lt_of_row HA1.out));have HN4:=Lib.hid (HN1.out.trans n4);have HY4:=Lib.hid (And.intro hy4 ha4);clear n4 hy4 ha4)
   | (go_at_call 16;with_reducible refine (c_refused x w4).mono ?_;rintro e5 w5 ⟨rfl,hb5⟩;have HR5:=Lib.hid ((Only.of_below (S:=fun _=>False) hb5).blk (fun q=>q) HR4.out);have HB5:=Lib.hid hb5;clear hb5)
   | (with_reducible refine wpList_store_ans rfl (.tmp 4) (.tmp 19) rfl Ha 1 0 0 x rfl rfl 0 0 0 0 HR5 ?_;intro w6 HG6 hg6))
  refine bodyPost_ret (ret_ans (fn:=Tryz.f18) rfl rfl HG6) rfl ?_
  rw [HE.out]
  have o6:Only w5 w6 (fun j=>j=Ha):=Only.grown hg6 (Or.inl rfl)
  exact ⟨rfl,y4,HY4.out.1,HY4.out.2,o4,(h4.below HB5.out).side o6 (fun j q=>by rw [q];exact HF4.out),(HN4.out.trans (Nx.below o4 HB5.out)).side o6 (fun j q=>by rw [q];exact HWA.out)⟩
theorem c_answer {w:World} {own:Nat→Option Tag} {y:Lay} {s:St} (h:Cor w own y s) {K:Nat} (hI:Inv (K+64064) 0 s) (k n l z r a m c v p:Int) (hk:0≤k∧k≤9) (hS:Sm ⟨k,n,l,z,r,a,m,c,v,p⟩) :
  Calls Tryz.prog 18 #[ptr y.c,.agg #[.int .i64 k,.int .i64 n,.int .i64 l,.int .i64 z,.int .i64 r,.int .i64 a,.int .i64 m,.int .i64 c,.int .i64 v,.int .i64 p]] w fun e w'=>e=.returned (avl (s.answer ⟨k,n,l,z,r,a,m,c,v,p⟩).2)∧Ty w own y (s.answer ⟨k,n,l,z,r,a,m,c,v,p⟩).1 w':=by
 have hc:k=0∨k=1∨k=2∨k=3∨k=4∨k=5∨k=6∨k=7∨k=8∨k=9:=by omega
 rcases hc with rfl | rfl | rfl | rfl | rfl | rfl | rfl | rfl | rfl | rfl
 ·exact c_answer0 h hI n l z r a m c v p hS
 ·exact c_answer1 h hI n l z r a m c v p hS
 ·exact c_answer2 h hI n l z r a m c v p hS
 ·exact c_answer3 h hI n l z r a m c v p hS
 ·exact c_answer4 h hI n l z r a m c v p hS
 ·exact c_answer5 h hI n l z r a m c v p hS
 ·exact c_answer6 h hI n l z r a m c v p hS
 ·exact c_answer7 h hI n l z r a m c v p hS
 ·exact c_answer8 h hI n l z r a m c v p hS
 ·exact c_answer9 h hI n l z r a m c v p hS
end Go.Proofs.YtnmheoagiilmiaaGreat.W.C
