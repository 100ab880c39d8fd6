import Derived.Test.YthdengocipfgiaaGreatRows
import Derived.Test.YthdengocipfgiaaGreatShelf
import Derived.WalkKit
import Derived.WalkSpells
import Derived.RowKit3
import Derived.Lib.Hide
import Derived.StillTactics
import Derived.Laws.Pointers
import Derived.Deep.RegionHeld3
/- A part of what core's laws stand on. -/
set_option linter.unusedVariables false
set_option linter.unusedSimpArgs false
set_option maxHeartbeats 400000
namespace Go.Proofs.YthdengocipfgiaaGreat.R
open Go.RowKit Go.Shelf
def U64 (x:Int):Prop:=0≤x∧x≤18446744073709551615
theorem ret_int {k:IntKind} {a b:Int} (h:a=b):Ending.returned (.int k a)=.returned (.int k b):=by rw [h]
theorem ret_bool {a:Bool} (h:a=true):Ending.returned (.bool a)=.returned (.bool true):=by rw [h]
theorem grown_trans {a b c:World} (h1:Grown a b) (h2:Grown b c):Grown a c :=
 ⟨World.keptBut_trans h1.1 h2.1,fun x=>(h2.2.1 x).trans (h1.2.1 x),Nat.le_trans h1.2.2 h2.2.2⟩
def mhi (x y:Int):Int:=x*y / 18446744073709551616
def mlo (x y:Int):Int:=x*y % 18446744073709551616
theorem mlo_u64 (x y:Int):U64 (mlo x y):=by unfold mlo U64;omega
theorem mul_le_u64 {x y:Int} (hx:U64 x) (hy:U64 y):0≤x*y∧x*y≤340282366920938463426481119284349108225:=by
 obtain ⟨x1,x2⟩:=hx;obtain ⟨y1,y2⟩:=hy;refine ⟨Int.mul_nonneg x1 y1,?_⟩;have:=Int.mul_le_mul x2 y2 y1 (by omega)
 omega
theorem mhi_u64 {x y:Int} (hx:U64 x) (hy:U64 y):U64 (mhi x y):=by
 have h:=mul_le_u64 hx hy;unfold mhi U64;omega
theorem halves (x y:Int):x*y=mhi x y*18446744073709551616+mlo x y:=by unfold mhi mlo;omega
theorem mul64_any (x y:Int) (hx:U64 x) (hy:U64 y) (w:World) :
  Calls Tryz.prog 198 #[.int .u64 x,.int .u64 y] w fun e w'=>e=.returned (.tuple #[.int .u64 (mhi x y),.int .u64 (mlo x y)])∧w=w':=by
 obtain ⟨x1,x2⟩:=hx;obtain ⟨y1,y2⟩:=hy;obtain ⟨x,rfl⟩:=Int.eq_ofNat_of_zero_le x1;obtain ⟨y,rfl⟩:=Int.eq_ofNat_of_zero_le y1;refine (Tryz.bits_Mul64 x y (by omega) (by omega) w).mono ?_
 rintro e w' ⟨rfl,rfl⟩;refine ⟨?_,rfl⟩;unfold mhi mlo;simp
theorem add64_run (x y c:Int) (hx:0≤x) (hy:0≤y) (hc0:0≤c) (hc:c≤1) (w:World) :
  (callFunc 199 #[.int .u64 x,.int .u64 y,.int .u64 c]).run Tryz.prog w =
  .ok (.value (.tuple #[.int .u64 ((x+y+c) % 18446744073709551616),.int .u64 ((x+y+c) / 18446744073709551616)])) w:=by
 obtain ⟨x,rfl⟩:=Int.eq_ofNat_of_zero_le hx;obtain ⟨y,rfl⟩:=Int.eq_ofNat_of_zero_le hy;obtain ⟨c,rfl⟩:=Int.eq_ofNat_of_zero_le hc0;refine (Any7.bits_Add64 Tryz.lays25 x y c (by omega) w).trans ?_
 congr 5 <;> omega
theorem add_step {x y c r d:Int} (hx:0≤x) (hy:0≤y) (hc0:0≤c) (hc:c≤1) (h1:(x+y+c) % 18446744073709551616=r) (h2:(x+y+c) / 18446744073709551616=d) (w:World) :
  (callFunc 199 #[.int .u64 x,.int .u64 y,.int .u64 c]).run Tryz.prog w=.ok (.value (.tuple #[.int .u64 r,.int .u64 d])) w:=by
 rw [add64_run x y c hx hy hc0 hc w,h1,h2]
def cmpI (x y:Int):Int:=if x<y then -1 else if y<x then 1 else 0
theorem cmp_lt {x y:Int} (h:x<y):cmpI x y=-1:=by unfold cmpI;rw [if_pos h]
theorem cmp_gt {x y:Int} (h:y<x):cmpI x y=1:=by unfold cmpI;rw [if_neg (by omega),if_pos h]
theorem cmp_eq (x:Int):cmpI x x=0:=by unfold cmpI;rw [if_neg (by omega),if_neg (by omega)]
abbrev Rat (n d:Int):Value:=.agg #[.int .u64 n,.int .u64 d]
theorem cmp64_any (x y:Int) (w:World) :
  Calls Tryz.prog 200 #[.int .u64 x,.int .u64 y] w fun e w'=>e=.returned (.int .i64 (cmpI x y))∧w=w':=by
 by_cases h:x<y
 ·have E:=Lib.hid (cmp_lt h)
  go_enter Tryz.func200,Tryz.ntmps200
  go_wp2
  go_ret
  exact ⟨ret_int E.out.symm,rfl⟩
 ·by_cases k:y<x
  ·have E:=Lib.hid (cmp_gt k)
   go_enter Tryz.func200,Tryz.ntmps200
   go_wp2
   go_ret
   exact ⟨ret_int E.out.symm,rfl⟩
  ·have e:x=y:=by omega
   subst e;have E:=Lib.hid (cmp_eq x)
   go_enter Tryz.func200,Tryz.ntmps200
   go_wp2
   go_ret
   exact ⟨ret_int E.out.symm,rfl⟩
theorem right_any (n d:Int) (w:World) :
  Calls Tryz.prog 195 #[Rat n d] w fun e w'=>e=.returned (.bool (decide (0<d)))∧∃ c:Array Value,w.alloc (.cells c 240)=w':=by
 go_enter Tryz.func195,Tryz.ntmps195
 go_wp2
 go_ret
 exact ⟨rfl,_,rfl⟩
theorem cmp_hi {a b c d:Int} (h:mhi a d≠mhi c b):cmpI (mhi a d) (mhi c b)=cmpI (a*d) (c*b):=by
 have e1:=halves a d;have e2:=halves c b;obtain ⟨l1,l2⟩:=mlo_u64 a d;obtain ⟨m1,m2⟩:=mlo_u64 c b
 by_cases k:mhi a d<mhi c b
 ·rw [cmp_lt k,cmp_lt (by omega)]
 ·rw [cmp_gt (by omega),cmp_gt (by omega)]
theorem cmp_lo {a b c d:Int} (h:mhi a d=mhi c b):cmpI (mlo a d) (mlo c b)=cmpI (a*d) (c*b):=by
 have e1:=halves a d;have e2:=halves c b;unfold cmpI
 split <;> split <;> (try split) <;> (try split) <;> omega
theorem compare_any (a b c d:Int) (ha:U64 a) (hb:U64 b) (hc:U64 c) (hd:U64 d) (w:World) :
  Calls Tryz.prog 191 #[Rat a b,Rat c d] w fun e w'=>e=.returned (.int .i64 (cmpI (a*d) (c*b)))∧∃ x y:Array Value,(w.alloc (.cells x 240)).alloc (.cells y 240)=w':=by
 by_cases h:mhi a d=mhi c b
 ·have E:=Lib.hid (cmp_lo h)
  have h':(mhi a d != mhi c b)=false:=by simpa using h
  clear h
  go_enter Tryz.func191,Tryz.ntmps191
  go_wp2_with fail
  refine (mul64_any a d ha hd _).mono ?_;rintro e w' ⟨rfl,rfl⟩;go_wp2_with fail
  refine (mul64_any c b hc hb _).mono ?_;rintro e w' ⟨rfl,rfl⟩;go_wp2_with fail
  refine (cmp64_any _ _ _).mono ?_;rintro e w' ⟨rfl,rfl⟩;go_wp2_with fail
  go_ret
  exact ⟨ret_int E.out,_,_,rfl⟩
 ·have E:=Lib.hid (cmp_hi h)
  have h':(mhi a d != mhi c b)=true:=by simpa using h
  clear h
  go_enter Tryz.func191,Tryz.ntmps191
  go_wp2_with fail
  refine (mul64_any a d ha hd _).mono ?_;rintro e w' ⟨rfl,rfl⟩;go_wp2_with fail
  refine (mul64_any c b hc hb _).mono ?_;rintro e w' ⟨rfl,rfl⟩;go_wp2_with fail
  refine (cmp64_any _ _ _).mono ?_;rintro e w' ⟨rfl,rfl⟩;go_wp2_with fail
  go_ret
  exact ⟨ret_int E.out,_,_,rfl⟩
theorem floor_any (n d:Int) (hn:U64 n) (hd:U64 d) (w:World) :
  Calls Tryz.prog 183 #[Rat n d] w fun e w'=>e=.returned (.int .u64 (n / d))∧∃ x y:Array Value,(w.alloc (.cells x 240)).alloc (.cells y 240)=w':=by
 obtain ⟨n1,n2⟩:=hn;obtain ⟨d1,d2⟩:=hd
 by_cases h:0<d
 ·have E:Hid (decide (0<d)=true):=Lib.hid (by simpa using h)
  go_enter Tryz.func183,Tryz.ntmps183
  go_wp2_with fail
  refine (right_any n d _).mono ?_;rintro e w' ⟨rfl,c,rfl⟩;rw [E.out];go_wp2_with fail
  go_ret
  exact ⟨rfl,_,_,rfl⟩
 ·have e0:d=0:=by omega
  subst e0;have E:Hid (decide ((0:Int)<0)=false):=Lib.hid (by decide)
  go_enter Tryz.func183,Tryz.ntmps183
  go_wp2_with fail
  refine (right_any n 0 _).mono ?_;rintro e w' ⟨rfl,c,rfl⟩;rw [E.out];go_wp2_with fail
  go_ret
  exact ⟨ret_int (by simp),_,_,rfl⟩
def Fits (n up down:Int):Prop:=0<down∧n*down+up≤18446744073709551615
theorem above_yes (n up down:Int) (hn:U64 n) (hu:U64 up) (hd:U64 down) (h:Fits n up down) (w:World) :
  Calls Tryz.prog 189 #[.int .u64 n,.int .u64 up,.int .u64 down] w fun e w'=>e=.returned (.tuple #[Rat (n*down+up) down,.bool true])∧∃ x:Array Value,w.alloc (.cells x 240)=w':=by
 obtain ⟨h1,h2⟩:=h;have e:=halves n down;obtain ⟨l1,l2⟩:=mlo_u64 n down;obtain ⟨m1,m2⟩:=mhi_u64 hn hd;have u0:=hu.1;have k1:mhi n down=0:=by omega
 have S1:=add_step (x:=mlo n down) (y:=up) (c:=0) (r:=n*down+up) (d:=0) l1 hu.1 (by omega) (by omega) (by omega) (by omega)
 have K:=Lib.hid k1;have z:(down == 0)=false:=by simp;omega
 clear e l1 l2 m1 m2 k1 h2
 go_enter Tryz.func189,Tryz.ntmps189
 go_wp2_with fail
 refine (mul64_any n down hn hd _).mono ?_;rintro e w' ⟨rfl,rfl⟩;rw [K.out];go_wp2_with fail
 exact bodyPost_ret (v:=.tuple #[Rat (n*down+up) down,.bool true]) (by simp [results,Tryz.results189,go_sem]) rfl ⟨rfl,_,rfl⟩
theorem above_no (n up down:Int) (hn:U64 n) (hu:U64 up) (hd:U64 down) (h:¬ Fits n up down) (w:World) :
  Calls Tryz.prog 189 #[.int .u64 n,.int .u64 up,.int .u64 down] w fun e w'=>e=.returned (.tuple #[Rat 0 0,.bool false])∧∃ x:Array Value,w.alloc (.cells x 240)=w':=by
 unfold Fits at h;obtain ⟨d1,d2⟩:=hd
 by_cases z:down=0
 ·subst z
  go_enter Tryz.func189,Tryz.ntmps189
  go_wp2_with fail
  exact bodyPost_ret (v:=.tuple #[Rat 0 0,.bool false]) (by simp [results,Tryz.results189,go_sem]) rfl ⟨rfl,_,rfl⟩
 have e:=halves n down;have hd:U64 down:=⟨d1,d2⟩;obtain ⟨l1,l2⟩:=mlo_u64 n down;obtain ⟨m1,m2⟩:=mhi_u64 hn hd;have z':(down == 0)=false:=by simp;omega
 have u0:=hu.1;have u1:=hu.2
 by_cases k:0<mhi n down
 ·obtain ⟨r,hr⟩:∃ r,(mlo n down+up+0) % 18446744073709551616=r:=⟨_,rfl⟩
  obtain ⟨c,hc⟩:∃ c,(mlo n down+up+0) / 18446744073709551616=c:=⟨_,rfl⟩;have S1:=add_step (x:=mlo n down) (y:=up) (c:=0) (r:=r) (d:=c) l1 u0 (by omega) (by omega) hr hc
  clear h e l1 l2 hr hc
  go_enter Tryz.func189,Tryz.ntmps189
  go_wp2_with fail
  refine (mul64_any n down hn hd _).mono ?_;rintro e w' ⟨rfl,rfl⟩;go_wp2_with fail
  exact bodyPost_ret (v:=.tuple #[Rat 0 0,.bool false]) (by simp [results,Tryz.results189,go_sem]) rfl ⟨rfl,_,rfl⟩
 ·have k1:mhi n down=0:=by omega
  have K:=Lib.hid k1;have S1:=add_step (x:=mlo n down) (y:=up) (c:=0) (r:=mlo n down+up-18446744073709551616) (d:=1) l1 u0 (by omega) (by omega) (by omega) (by omega)
  clear h e l1 l2 k1 k
  go_enter Tryz.func189,Tryz.ntmps189
  go_wp2_with fail
  refine (mul64_any n down hn hd _).mono ?_;rintro e w' ⟨rfl,rfl⟩;rw [K.out];go_wp2_with fail
  exact bodyPost_ret (v:=.tuple #[Rat 0 0,.bool false]) (by simp [results,Tryz.results189,go_sem]) rfl ⟨rfl,_,rfl⟩
end Go.Proofs.YthdengocipfgiaaGreat.R
