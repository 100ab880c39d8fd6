import Derived.Test.YthdengocipfgiaaGreatRows
import Derived.Test.YthdengocipfgiaaGreatShelf
import Derived.Test.YthdengocipfgiaaGreatCaC
import Derived.WalkKit
import Derived.WalkSpells
import Derived.RowKit3
import Derived.IntWalk
import Derived.Lib.ItoaNum
import Derived.BigQuiet
import Derived.Deep.QuietTactic
import Derived.Deep.DeepCutAuto
import Derived.Deep.CutBlock
import Derived.Lib.Hide
/- A part of what core's laws stand on. -/
set_option linter.unusedVariables false
set_option linter.unusedSimpArgs false
set_option maxRecDepth 100000
set_option maxHeartbeats 1000000
namespace Go.Proofs.YthdengocipfgiaaGreat
open Go.RowKit Go.Shelf
def clampI (n lo hi:Int):Int:=max (min n hi) lo
theorem clamp_any (n lo hi:Int) (w:World) :
  Calls Tryz.prog 197 #[.int .i64 n,.int .i64 lo,.int .i64 hi] w fun e w'=>e=.returned (.int .i64 (clampI n lo hi))∧w=w':=by
 go_enter Tryz.func197,Tryz.ntmps197
 go_wp2
 go_ret
 exact ⟨rfl,rfl⟩
def capI (h l:Int):Int:=if 0<h∨9223372036854775807<l then 9223372036854775807 else l
theorem bounded_any (h l:Int) (hh:U64 h) (hl:U64 l) (w:World) :
  Calls Tryz.prog 204 #[.int .u64 h,.int .u64 l] w fun e w'=>e=.returned (.int .i64 (capI h l))∧w=w':=by
 obtain ⟨a1,a2⟩:=hh;obtain ⟨b1,b2⟩:=hl
 go_enter Tryz.func204,Tryz.ntmps204
 go_wp2
 all_goals go_ret
 all_goals exact ⟨ret_int (by unfold capI;first | rw [if_pos (by omega)] | rw [if_neg (by omega)]),rfl⟩
def mhi (x y:Int):Int:=x*y / 18446744073709551616
def mlo (x y:Int):Int:=x*y % 18446744073709551616
theorem mlo_u64 (x y:Int):U64 (mlo x y):=by unfold mlo U64;omega
theorem mul_le_u64 {x y:Int} (hx:U64 x) (hy:U64 y):0≤x*y∧x*y≤340282366920938463426481119284349108225:=by
 obtain ⟨x1,x2⟩:=hx;obtain ⟨y1,y2⟩:=hy;refine ⟨Int.mul_nonneg x1 y1,?_⟩;have:=Int.mul_le_mul x2 y2 y1 (by omega)
 omega
theorem mhi_u64 {x y:Int} (hx:U64 x) (hy:U64 y):U64 (mhi x y):=by
 have h:=mul_le_u64 hx hy;unfold mhi U64;omega
theorem mul64_any (x y:Int) (hx:U64 x) (hy:U64 y) (w:World) :
  Calls Tryz.prog 198 #[.int .u64 x,.int .u64 y] w fun e w'=>e=.returned (.tuple #[.int .u64 (mhi x y),.int .u64 (mlo x y)])∧w=w':=by
 obtain ⟨x1,x2⟩:=hx;obtain ⟨y1,y2⟩:=hy;obtain ⟨x,rfl⟩:=Int.eq_ofNat_of_zero_le x1;obtain ⟨y,rfl⟩:=Int.eq_ofNat_of_zero_le y1;refine (Tryz.bits_Mul64 x y (by omega) (by omega) w).mono ?_
 rintro e w' ⟨rfl,rfl⟩;refine ⟨?_,rfl⟩;unfold mhi mlo;simp
theorem halves (x y:Int):x*y=mhi x y*18446744073709551616+mlo x y:=by unfold mhi mlo;omega
end Go.Proofs.YthdengocipfgiaaGreat
namespace Go.Proofs.YthdengocipfgiaaGreat
def Guess (u d y1 y0 q r:Int):Prop :=
 r=u-q*y1∧(u*4294967296+d) / (y1*4294967296+y0)≤q∧q≤4294967297∧0≤r∧r<4294967296
def Parts (u d y1 y0:Int):Prop :=
 2147483648≤y1∧y1<4294967296∧0≤y0∧y0<4294967296∧0≤u∧u<y1*4294967296+y0∧0≤d∧d<4294967296
theorem guess_nonneg {u d y1 y0 q r:Int} (P:Parts u d y1 y0) (G:Guess u d y1 y0 q r):0≤q:=by
 obtain ⟨a,b,c,e,f,g,h,i⟩:=P;have:0≤(u*4294967296+d) / (y1*4294967296+y0):=Int.ediv_nonneg (by omega) (by omega)
 obtain ⟨_,G,_⟩:=G;omega
theorem guess_first {u d y1 y0:Int} (P:Parts u d y1 y0):Guess u d y1 y0 (u / y1) (u-u / y1*y1):=by
 obtain ⟨a,b,c,e,f,g,h,i⟩:=P
 have hm:u-u / y1*y1=u % y1:=by
  have:=Int.emod_add_mul_ediv u y1
  rw [Int.mul_comm] at this;omega
 have h0:=Int.emod_nonneg u (show y1≠0 by omega)
 have h1:=Int.emod_lt_of_pos u (show 0<y1 by omega)
 refine ⟨rfl,?_,?_,by omega,by omega⟩
 ·have hQ:(u*4294967296+d) / (y1*4294967296+y0)*(y1*4294967296+y0)≤u*4294967296+d:=Int.ediv_mul_le _ (by omega)
  have hn:0≤(u*4294967296+d) / (y1*4294967296+y0):=Int.ediv_nonneg (by omega) (by omega)
  generalize (u*4294967296+d) / (y1*4294967296+y0)=Q at *;rw [Int.mul_add,←Int.mul_assoc] at hQ;have hy:0≤Q*y0:=Int.mul_nonneg hn c
  have:Q*y1≤u:=by
   generalize Q*y1=z at *;generalize Q*y0=z' at *;omega
  exact Int.le_ediv_of_mul_le (by omega) this
 ·have:u / y1<4294967298:=Int.ediv_lt_of_lt_mul (by omega) (by omega)
  omega
theorem guess_over {u d y1 y0 q r:Int} (P:Parts u d y1 y0) (G:Guess u d y1 y0 q r) (h:4294967296≤q∨4294967296*r+d<q*y0) :
  (u*4294967296+d) / (y1*4294967296+y0)≤q-1:=by
 obtain ⟨a,b,c,e,f,g,i,j⟩:=P;obtain ⟨hr,_,_,_,_⟩:=G
 rcases h with h | h
 ·have:(u*4294967296+d) / (y1*4294967296+y0)<4294967296:=Int.ediv_lt_of_lt_mul (by omega) (by omega)
  omega
 ·have:(u*4294967296+d) / (y1*4294967296+y0)<q:=by
   refine Int.ediv_lt_of_lt_mul (by omega) ?_
   rw [Int.mul_add,←Int.mul_assoc];generalize q*y1=z at *;generalize q*y0=z' at *;omega
  omega
theorem guess_next {u d y1 y0 q r:Int} (P:Parts u d y1 y0) (G:Guess u d y1 y0 q r) (h:4294967296≤q∨4294967296*r+d<q*y0) (k:r+y1<4294967296) :
  Guess u d y1 y0 (q-1) (r+y1):=by
 have:=guess_over P G h
 obtain ⟨a,b,c,e,f,g,i,j⟩:=P;obtain ⟨hr,h1,h2,h3,h4⟩:=G;refine ⟨?_,this,by omega,by omega,k⟩
 rw [Int.sub_mul];generalize q*y1=z at *;omega
theorem guess_right {u d y1 y0 q r:Int} (P:Parts u d y1 y0) (hr:r=u-q*y1) (h1:(u*4294967296+d) / (y1*4294967296+y0)≤q) (k:q*y0≤4294967296*r+d) :
  q=(u*4294967296+d) / (y1*4294967296+y0):=by
 obtain ⟨a,b,c,e,f,g,i,j⟩:=P
 have:q≤(u*4294967296+d) / (y1*4294967296+y0):=by
  refine Int.le_ediv_of_mul_le (by omega) ?_
  rw [Int.mul_add,←Int.mul_assoc];generalize q*y1=z at *;generalize q*y0=z' at *;omega
 omega
theorem guess_last {u d y1 y0 q r:Int} (P:Parts u d y1 y0) (G:Guess u d y1 y0 q r) (k:q*y0≤4294967296*r+d) :
  q=(u*4294967296+d) / (y1*4294967296+y0):=by
 obtain ⟨hr,h1,h2,h3,h4⟩:=G;exact guess_right P hr h1 k
theorem guess_break {u d y1 y0 q r:Int} (P:Parts u d y1 y0) (G:Guess u d y1 y0 q r) (h:4294967296≤q∨4294967296*r+d<q*y0) (k:4294967296≤r+y1) :
  q-1=(u*4294967296+d) / (y1*4294967296+y0):=by
 have ho:=guess_over P G h;have hn:=guess_nonneg P G;obtain ⟨hr,h1,h2,h3,h4⟩:=G;refine guess_right (r:=r+y1) P (by rw [Int.sub_mul];generalize q*y1=z at *;omega) ho ?_
 obtain ⟨a,b,c,e,f,g,i,j⟩:=P;have m:(q-1)*y0≤4294967296*y0:=Int.mul_le_mul_of_nonneg_right (by omega) c
 omega
theorem digit_left (u d y1 y0:Int) :
  u*4294967296+d-(u*4294967296+d) / (y1*4294967296+y0)*(y1*4294967296+y0)=(u*4294967296+d) % (y1*4294967296+y0):=by
 have:=Int.emod_add_mul_ediv (u*4294967296+d) (y1*4294967296+y0)
 rw [Int.mul_comm (y1*4294967296+y0)] at this;omega
theorem digit_less {u d y1 y0:Int} (P:Parts u d y1 y0):0≤(u*4294967296+d) % (y1*4294967296+y0)∧(u*4294967296+d) % (y1*4294967296+y0)<y1*4294967296+y0:=by
 obtain ⟨a,b,c,e,f,g,i,j⟩:=P;exact ⟨Int.emod_nonneg _ (by omega),Int.emod_lt_of_pos _ (by omega)⟩
theorem digit_lt {u d y1 y0:Int} (P:Parts u d y1 y0):0≤(u*4294967296+d) / (y1*4294967296+y0)∧(u*4294967296+d) / (y1*4294967296+y0)<4294967296:=by
 obtain ⟨a,b,c,e,f,g,i,j⟩:=P;exact ⟨Int.ediv_nonneg (by omega) (by omega),Int.ediv_lt_of_lt_mul (by omega) (by omega)⟩
theorem two_digits {u d1 d0 Y:Int} (hY:0<Y) :
  (u*4294967296+d1) / Y*4294967296+((u*4294967296+d1) % Y*4294967296+d0) / Y=(u*18446744073709551616+(d1*4294967296+d0)) / Y ∧
  ((u*4294967296+d1) % Y*4294967296+d0) % Y=(u*18446744073709551616+(d1*4294967296+d0)) % Y:=by
 have e1:=Int.emod_add_mul_ediv (u*4294967296+d1) Y
 have e2:u*18446744073709551616+(d1*4294967296+d0)=((u*4294967296+d1) % Y*4294967296+d0)+Y*((u*4294967296+d1) / Y*4294967296):=by
  rw [←Int.mul_assoc];generalize Y*((u*4294967296+d1) / Y)=z at *;generalize (u*4294967296+d1) % Y=z' at *;omega
 rw [e2]
 constructor
 ·rw [Int.add_mul_ediv_left _ _ (by omega)];omega
 ·rw [Int.add_mul_emod_self_left]
theorem shifted {n y t:Int} (ht:0<t):n*t / (y*t)=n / y∧n*t % (y*t) / t=n % y:=by
 constructor
 ·exact Int.mul_ediv_mul_of_pos_left _ _ ht
 ·rw [Int.mul_comm n t,Int.mul_comm y t,Int.mul_emod_mul_of_pos _ _ ht]
  exact Int.mul_ediv_cancel_left _ (by omega)
theorem normal {y:Int} (h0:0<y) (h1:y≤18446744073709551615) :
  ∃ s:Nat,s≤63∧64-(Lib.bitLen y.toNat:Int)=(s:Int)∧9223372036854775808≤y*2 ^ s∧y*2 ^ s<18446744073709551616:=by
 obtain ⟨n,rfl⟩:=Int.eq_ofNat_of_zero_le (show 0≤y by omega)
 have hb:=Lib.bitLenAux_bounds 64 n (by omega) (by omega)
 change 1≤Lib.bitLen n∧2 ^ (Lib.bitLen n-1)≤n∧n<2 ^ Lib.bitLen n at hb;obtain ⟨b1,b2,b3⟩:=hb
 have b4:Lib.bitLen n≤64:=by
  refine Nat.le_of_not_lt fun h=>?_;have:2 ^ 64≤2 ^ (Lib.bitLen n-1):=Nat.pow_le_pow_right (by omega) (by omega)
  omega
 simp only [Int.toNat_natCast];generalize Lib.bitLen n=b at *;refine ⟨64-b,by omega,by omega,?_,?_⟩
 ·have:2 ^ (b-1)*2 ^ (64-b)≤n*2 ^ (64-b):=Nat.mul_le_mul_right _ b2
  rw [←Nat.pow_add,show b-1+(64-b)=63 by omega] at this
  have e:((n*2 ^ (64-b):Nat):Int)=(n:Int)*2 ^ (64-b):=by push_cast;rfl
  rw [←e];omega
 ·have:n*2 ^ (64-b)<2 ^ b*2 ^ (64-b):=Nat.mul_lt_mul_of_pos_right b3 (Nat.two_pow_pos _)
  rw [←Nat.pow_add,show b+(64-b)=64 by omega] at this
  have e:((n*2 ^ (64-b):Nat):Int)=(n:Int)*2 ^ (64-b):=by push_cast;rfl
  rw [←e];omega
end Go.Proofs.YthdengocipfgiaaGreat
namespace Go.Proofs.YthdengocipfgiaaGreat
open Go.RowKit Go.Shelf
theorem div64_small (l y:Int) (hl:U64 l) (hy:0<y) (hy':U64 y) (w:World) :
  Calls Tryz.prog 203 #[.int .u64 0,.int .u64 l,.int .u64 y] w fun e w'=>e=.returned (.tuple #[.int .u64 (l / y),.int .u64 (l % y)])∧∃ n,w'=w.drewN n:=by
 obtain ⟨l1,l2⟩:=hl;obtain ⟨y1,y2⟩:=hy'
 go_enter Tryz.func203,Tryz.ntmps203
 go_wp2
 go_quiet (fail)
 go_wp2
 go_ret2
 exact ⟨rfl,_,rfl⟩
theorem mask32 (a:Int) (h0:0≤a) (h1:a≤18446744073709551615):bits .and .u64 a 4294967295=a % 4294967296:=by
 obtain ⟨n,rfl⟩:=Int.eq_ofNat_of_zero_le h0;rw [Mul64.maskN n (by omega)]
 omega
theorem or_parts (a b:Int) (s:Nat) (h0:0≤a) (h1:0≤b) (h2:b<2 ^ s) (h3:a*2 ^ s+b<18446744073709551616):bits .or .u64 (a*2 ^ s) b=a*2 ^ s+b:=by
 obtain ⟨n,rfl⟩:=Int.eq_ofNat_of_zero_le h0;obtain ⟨m,rfl⟩:=Int.eq_ofNat_of_zero_le h1;have e:(n:Int)*2 ^ s=((n*2 ^ s:Nat):Int):=by push_cast;rfl
 have h2':m<2 ^ s:=by
  have:((2 ^ s:Nat):Int)=2 ^ s:=by push_cast;rfl
  omega
 rw [e] at h3 ⊢;rw [bits_or_u64_nat _ _ (by omega) (by omega),←Nat.shiftLeft_eq,←Nat.shiftLeft_add_eq_or_of_lt h2']
 omega
theorem wrap_three {a b c z:Int} (h:a+b-c=z) (h0:0≤z) (h1:z<18446744073709551616):IntKind.u64.wrap (IntKind.u64.wrap (IntKind.u64.wrap a+b)-IntKind.u64.wrap c)=z:=by
 simp only [IntKind.wrap_u64];omega
structure Ready (h l y:Int) (s:Nat) (Y u v:Int):Prop where
 eY:Y=y*2 ^ s
 lo:9223372036854775808≤Y
 hi:Y<18446744073709551616
 all:(h*18446744073709551616+l)*2 ^ s=u*18446744073709551616+v
 u0:0≤u
 u1:u<Y
 v0:0≤v
 v1:v<18446744073709551616
theorem pow_parts (s:Nat) (hs:s≤63):(2:Int) ^ s*2 ^ (64-s)=18446744073709551616:=by
 rw [←Int.pow_add,show s+(64-s)=64 by omega];rfl
theorem pow_pos' (s:Nat):(0:Int)<2 ^ s:=Int.pow_pos (by decide)
theorem ready {h l y:Int} {s:Nat} (hs:s≤63) (h0:0<h) (h1:h<y) (l0:0≤l) (l1:l≤18446744073709551615) (s3:9223372036854775808≤y*2 ^ s) (s4:y*2 ^ s<18446744073709551616) :
  Ready h l y s (y*2 ^ s) (h*2 ^ s+l / 2 ^ (64-s)) (l*2 ^ s % 18446744073709551616)∧l / 2 ^ (64-s)<2 ^ s∧0≤l / 2 ^ (64-s):=by
 have p1:=pow_parts s hs;have p2:=pow_pos' s;have p3:=pow_pos' (64-s);have q0:0≤l / 2 ^ (64-s):=Int.ediv_nonneg l0 (by omega)
 have q1:l / 2 ^ (64-s)<2 ^ s:=Int.ediv_lt_of_lt_mul p3 (by omega)
 have q2:=Int.emod_add_mul_ediv l (2 ^ (64-s));have q3:=Int.emod_nonneg l (show (2:Int) ^ (64-s)≠0 by omega)
 have q4:=Int.emod_lt_of_pos l p3;have hy:(h+1)*2 ^ s≤y*2 ^ s:=Int.mul_le_mul_of_nonneg_right (by omega) (by omega)
 rw [Int.add_mul] at hy;have hh:0≤h*2 ^ s:=Int.mul_nonneg (by omega) (by omega)
 have m1:l*2 ^ s=l % 2 ^ (64-s)*2 ^ s+l / 2 ^ (64-s)*18446744073709551616:=by
  conv=>lhs;rw [←q2]
  rw [Int.add_mul,Int.mul_comm (2 ^ (64-s)),Int.mul_assoc,Int.mul_comm (2 ^ (64-s)),p1]
 have m2:0≤l % 2 ^ (64-s)*2 ^ s:=Int.mul_nonneg q3 (by omega)
 have m3:l % 2 ^ (64-s)*2 ^ s<18446744073709551616:=by
  have:l % 2 ^ (64-s)*2 ^ s<2 ^ (64-s)*2 ^ s:=Int.mul_lt_mul_of_pos_right q4 p2
  rw [Int.mul_comm (2 ^ (64-s)),p1] at this;exact this
 refine ⟨⟨rfl,s3,s4,?_,by omega,by omega,by omega,by omega⟩,q1,q0⟩
 rw [Int.add_mul,Int.mul_right_comm,m1];generalize h*2 ^ s=a at *;generalize l % 2 ^ (64-s)*2 ^ s=b at *;generalize l / 2 ^ (64-s)=c at *;omega
theorem ret_words {k k':IntKind} {a b c d:Int} (h1:a=c) (h2:b=d):Ending.returned (.tuple #[.int k a,.int k' b])=.returned (.tuple #[.int k c,.int k' d]):=by rw [h1,h2]
theorem div_end {h l y:Int} {s:Nat} {Y u v e1 e0 d1 d0 q z q':Int} (hR:Ready h l y s Y u v) (P:Parts u e1 d1 d0) (P2:Parts z e0 d1 d0)
  (eY:Y=d1*4294967296+d0) (eV:v=e1*4294967296+e0) (Q:q=(u*4294967296+e1) / (d1*4294967296+d0))
  (Z:z=(u*4294967296+e1) % (d1*4294967296+d0)) (Q':q'=(z*4294967296+e0) / (d1*4294967296+d0)) :
  IntKind.u64.wrap (IntKind.u64.wrap (q*4294967296)+q')=(h*18446744073709551616+l) / y ∧
  IntKind.u64.wrap (IntKind.u64.wrap (IntKind.u64.wrap (z*4294967296)+e0)-IntKind.u64.wrap (q'*Y)) / 2 ^ s=(h*18446744073709551616+l) % y:=by
 have b1:=digit_lt P;have b2:=digit_lt P2;have l2:=digit_left z e0 d1 d0;have m2:=digit_less P2;rw [←Q] at b1;rw [←Q'] at b2 l2;rw [←eY] at Q Z Q' l2 m2;have hY:0<Y:=by have:=hR.lo;omega
 obtain ⟨t1,t2⟩:=two_digits (u:=u) (d1:=e1) (d0:=e0) hY;rw [←Q,←Z,←Q',←eV,←hR.all,hR.eY,(shifted (pow_pos' s)).1] at t1;rw [←Z,←eV,←hR.all,hR.eY] at t2
 constructor
 ·rw [←t1]
  simp only [IntKind.wrap_u64];omega
 ·rw [wrap_three l2 m2.1 (by have:=hR.hi;omega),hR.eY,t2,(shifted (pow_pos' s)).2]
theorem div64_big (h l y:Int) (hh:0<h) (hl:U64 l) (hy:h<y) (hy':U64 y) (w:World) :
  Calls Tryz.prog 203 #[.int .u64 h,.int .u64 l,.int .u64 y] w fun e w'=>e=.returned (.tuple #[.int .u64 ((h*18446744073709551616+l) / y),.int .u64 ((h*18446744073709551616+l) % y)])∧w=w':=by
 obtain ⟨l1,l2⟩:=hl;obtain ⟨y1,y2⟩:=hy';obtain ⟨s,s1,s2,s3,s4⟩:=normal (show 0<y by omega) y2
 obtain ⟨hR,r1,r2⟩:=ready s1 hh hy l1 l2 s3 s4;have ru:=hR.u1;have hs0:0≤h*2 ^ s:=Int.mul_nonneg (by omega) (by have:=pow_pos' s;omega)
 have hs1:h*2 ^ s<18446744073709551616:=by omega
 have S2:=Lib.hid s2;clear s2;have g1:(y == 0)=false:=by simp;omega
 have g2:(h == 0)=false:=by simp;omega
 go_enter Tryz.func203,Tryz.ntmps203
 go_wp2_with fail
 refine (Tryz.bits_LeadingZeros64 y _ (by omega) (by omega)).mono ?_
 rintro e w' ⟨rfl,rfl⟩;rw [S2.out];go_upto_region 8 with (fail)
 go_cut [2] (fun a wc=>∃ Y:Int,9223372036854775808≤Y∧Y<18446744073709551616∧Hid (Y=y*2 ^ s)∧a=.int .u64 Y∧w'=wc)
 case first =>
  go_wp2
  go_meet
  exact ⟨_,s3,s4,Lib.hid rfl,rfl,rfl⟩
 case rest =>
  obtain ⟨Y,Y1,Y2,Y3,rfl,rfl⟩:=hcut;go_upto_region 9 with (fail)
  go_cut [9] (fun a wc=>∃ d:Int,2147483648≤d∧d<4294967296∧Hid (d=Y / 4294967296)∧a=.int .u64 d∧w'=wc)
  case first =>
   go_wp2
   go_meet
   exact ⟨_,by omega,by omega,Lib.hid rfl,rfl,rfl⟩
  case rest =>
   obtain ⟨d1,d11,d12,D1,rfl,rfl⟩:=hcut;go_upto_region 10 with (fail)
   go_cut [10] (fun a wc=>∃ d:Int,0≤d∧d<4294967296∧Hid (d=Y % 4294967296)∧a=.int .u64 d∧w'=wc)
   case first =>
    go_wp2
    go_meet
    rw [mask32 Y (by omega) (by omega)]
    exact ⟨_,by omega,by omega,Lib.hid rfl,rfl,rfl⟩
   case rest =>
    obtain ⟨d0,d01,d02,D0,rfl,rfl⟩:=hcut;go_upto_region 11 with (fail)
    go_cut [11] (fun a wc=>∃ d:Int,0≤d∧d<18446744073709551616∧Hid (d=h*2 ^ s+l / 2 ^ (64-s))∧a=.int .u64 d∧w'=wc)
    case first =>
     go_wp2
     go_meet
     rw [or_parts h _ s (by omega) r2 r1 (by omega)]
     exact ⟨_,by omega,by omega,Lib.hid rfl,rfl,rfl⟩
    case rest =>
     obtain ⟨u,u1,u2,U,rfl,rfl⟩:=hcut;clear r1 r2 ru hs0 hs1 s3 s4;go_upto_region 12 with (fail)
     go_cut [12] (fun a wc=>∃ d:Int,0≤d∧d<18446744073709551616∧Hid (d=l*2 ^ s % 18446744073709551616)∧a=.int .u64 d∧w'=wc)
     case first =>
      go_wp2
      go_meet
      refine ⟨l*2 ^ s % 18446744073709551616,by omega,by omega,Lib.hid rfl,?_,rfl⟩
      first | rfl | rw [IntKind.wrap_u64]
     case rest =>
      obtain ⟨v,v1,v2,V,rfl,rfl⟩:=hcut;rw [←Y3.out,←U.out,←V.out] at hR;clear U V;go_upto_region 13 with (fail)
      go_cut [13] (fun a wc=>∃ d:Int,0≤d∧d<4294967296∧Hid (d=v / 4294967296)∧a=.int .u64 d∧w'=wc)
      case first =>
       go_wp2
       go_meet
       exact ⟨_,by omega,by omega,Lib.hid rfl,rfl,rfl⟩
      case rest =>
       obtain ⟨e1,e11,e12,E1,rfl,rfl⟩:=hcut;go_upto_region 14 with (fail)
       go_cut [14] (fun a wc=>∃ d:Int,0≤d∧d<4294967296∧Hid (d=v % 4294967296)∧a=.int .u64 d∧w'=wc)
       case first =>
        go_wp2
        go_meet
        rw [mask32 v (by omega) (by omega)]
        exact ⟨_,by omega,by omega,Lib.hid rfl,rfl,rfl⟩
       case rest =>
        obtain ⟨e0,e01,e02,E0,rfl,rfl⟩:=hcut;have P:Parts u e1 d1 d0:=⟨d11,d12,d01,d02,u1,by have:=hR.u1;have:=D1.out;have:=D0.out;omega,e11,e12⟩
        have eY:Hid (Y=d1*4294967296+d0):=Lib.hid (by have:=D1.out;have:=D0.out;omega)
        have eV:Hid (v=e1*4294967296+e0):=Lib.hid (by have:=E1.out;have:=E0.out;omega)
        clear D1 D0 E1 E0;go_upto_region 15 with (fail)
        go_cut [15] (fun a wc=>∃ q:Int,Hid (q=u / d1)∧a=.int .u64 q∧w'=wc)
        case first =>
         go_wp2
         go_meet
         exact ⟨_,Lib.hid rfl,rfl,rfl⟩
        case rest =>
         obtain ⟨q,Q,rfl,rfl⟩:=hcut;have G:=guess_first P;rw [←Q.out] at G;have G0:=G.2.2.2.1;have G1:=G.2.2.2.2;have Gq:=guess_nonneg P G;have Gm:0≤q*d1:=Int.mul_nonneg Gq (by omega)
         have Gl:=G.2.2.1;go_upto_region 16 with (fail)
         go_cut [16] (fun a wc=>a=.int .u64 (u-q*d1)∧w'=wc)
         case first =>
          go_wp2
          go_meet
          exact ⟨rfl,rfl⟩
         case rest =>
          obtain ⟨rfl,rfl⟩:=hcut;clear Gm G0 G1 Gq Gl
          go_upto_block 0 with (fail)
          go_cut [15,16] (fun a b wc=>∃ q r:Int,Hid (q=(u*4294967296+e1) / (d1*4294967296+d0))∧a=.int .u64 q∧b=.int .u64 r∧w'=wc)
          case first =>
           go_wp2_with fail
           go_loop [15,16] (fun a b=>∃ q r:Int,Guess u e1 d1 d0 q r∧a=.int .u64 q∧b=.int .u64 r) (fun a _=>(intOf a).toNat)
           case atStart=>exact ⟨_,_,G,rfl,rfl⟩
           case round =>
            clear G Q q;obtain ⟨q,r,G,rfl,rfl⟩:=hrel;have q0:=guess_nonneg P G;have q1:=G.2.2.1;have r0:=G.2.2.2.1;have r1:=G.2.2.2.2
            by_cases hq:4294967296≤q
            ·by_cases hb:4294967296≤r+d1
             ·have E:=Lib.hid (guess_break P G (Or.inl hq) hb)
              go_wp2
              go_meet
              exact ⟨_,_,E,rfl,rfl,rfl⟩
             ·have E:=guess_next P G (Or.inl hq) (by omega)
              go_wp2
              go_round
              case rel=>exact ⟨_,_,E,rfl,rfl⟩
              case measure=>simp [intOf];omega
            ·have m0:0≤q*d0:=Int.mul_nonneg q0 d01
             have m1:q*d0≤4294967295*4294967295:=Int.mul_le_mul (by omega) (by omega) d01 (by omega)
             by_cases hc:4294967296*r+e1<q*d0
             ·by_cases hb:4294967296≤r+d1
              ·have E:=Lib.hid (guess_break P G (Or.inr hc) hb)
               have o:=guess_over P G (Or.inr hc);have o':=(digit_lt P).1;have q2:1≤q:=by omega
               clear o o'
               go_wp2
               go_meet
               exact ⟨_,_,E,rfl,rfl,rfl⟩
              ·have E:=guess_next P G (Or.inr hc) (by omega)
               have o:=guess_over P G (Or.inr hc);have o':=(digit_lt P).1;have q2:1≤q:=by omega
               clear o o'
               go_wp2
               go_round
               case rel=>exact ⟨_,_,E,rfl,rfl⟩
               case measure=>simp [intOf];omega
             ·have E:=Lib.hid (guess_last P G (by omega))
              go_wp2
              go_meet
              exact ⟨_,_,E,rfl,rfl,rfl⟩
          case rest =>
           clear G Q q;obtain ⟨q,r,Q,rfl,rfl,rfl⟩:=hcut;go_upto_region 21 with (fail)
           go_cut [17] (fun a wc=>∃ z:Int,Hid (z=(u*4294967296+e1) % (d1*4294967296+d0))∧a=.int .u64 z∧w'=wc)
           case first =>
            have ez:=digit_left u e1 d1 d0;rw [←Q.out,←eY.out] at ez;have hz:=digit_less P;rw [←eY.out] at hz;have EZ:=Lib.hid ez;clear ez
            go_wp2
            go_meet
            refine ⟨_,Lib.hid rfl,?_,rfl⟩;rw [wrap_three EZ.out hz.1 (by omega),eY.out]
           case rest =>
            obtain ⟨z,Z,rfl,rfl⟩:=hcut;have hz:=digit_less P;rw [←Z.out] at hz;obtain ⟨z1,z2⟩:=hz;have P2:Parts z e0 d1 d0:=⟨d11,d12,d01,d02,z1,z2,e01,e02⟩;have z3:z<18446744073709551616:=by omega
            go_upto_region 22 with (fail)
            go_cut [18] (fun a wc=>∃ q:Int,Hid (q=z / d1)∧a=.int .u64 q∧w'=wc)
            case first =>
             go_wp2
             go_meet
             exact ⟨_,Lib.hid rfl,rfl,rfl⟩
            case rest =>
             obtain ⟨q',Q',rfl,rfl⟩:=hcut;have G:=guess_first P2;rw [←Q'.out] at G;have G0:=G.2.2.2.1;have G1:=G.2.2.2.2;have Gq:=guess_nonneg P2 G;have Gm:0≤q'*d1:=Int.mul_nonneg Gq (by omega)
             have Gl:=G.2.2.1;go_upto_region 23 with (fail)
             go_cut [16] (fun a wc=>a=.int .u64 (z-q'*d1)∧w'=wc)
             case first =>
              go_wp2
              go_meet
              exact ⟨rfl,rfl⟩
             case rest =>
              obtain ⟨rfl,rfl⟩:=hcut;clear Gm G0 G1 Gq Gl
              go_upto_block 2 with (fail)
              go_cut [18,16] (fun a b wc=>∃ q r:Int,Hid (q=(z*4294967296+e0) / (d1*4294967296+d0))∧a=.int .u64 q∧b=.int .u64 r∧w'=wc)
              case first =>
               go_wp2_with fail
               go_loop [18,16] (fun a b=>∃ q r:Int,Guess z e0 d1 d0 q r∧a=.int .u64 q∧b=.int .u64 r) (fun a _=>(intOf a).toNat)
               case atStart=>exact ⟨_,_,G,rfl,rfl⟩
               case round =>
                clear G Q' q';obtain ⟨q,r,G,rfl,rfl⟩:=hrel;have q0:=guess_nonneg P2 G;have q1:=G.2.2.1;have r0:=G.2.2.2.1;have r1:=G.2.2.2.2
                by_cases hq:4294967296≤q
                ·by_cases hb:4294967296≤r+d1
                 ·have E:=Lib.hid (guess_break P2 G (Or.inl hq) hb)
                  go_wp2
                  go_meet
                  exact ⟨_,_,E,rfl,rfl,rfl⟩
                 ·have E:=guess_next P2 G (Or.inl hq) (by omega)
                  go_wp2
                  go_round
                  case rel=>exact ⟨_,_,E,rfl,rfl⟩
                  case measure=>simp [intOf];omega
                ·have m0:0≤q*d0:=Int.mul_nonneg q0 d01
                 have m1:q*d0≤4294967295*4294967295:=Int.mul_le_mul (by omega) (by omega) d01 (by omega)
                 by_cases hc:4294967296*r+e0<q*d0
                 ·by_cases hb:4294967296≤r+d1
                  ·have E:=Lib.hid (guess_break P2 G (Or.inr hc) hb)
                   have o:=guess_over P2 G (Or.inr hc);have o':=(digit_lt P2).1;have q2:1≤q:=by omega
                   clear o o'
                   go_wp2
                   go_meet
                   exact ⟨_,_,E,rfl,rfl,rfl⟩
                  ·have E:=guess_next P2 G (Or.inr hc) (by omega)
                   have o:=guess_over P2 G (Or.inr hc);have o':=(digit_lt P2).1;have q2:1≤q:=by omega
                   clear o o'
                   go_wp2
                   go_round
                   case rel=>exact ⟨_,_,E,rfl,rfl⟩
                   case measure=>simp [intOf];omega
                 ·have E:=Lib.hid (guess_last P2 G (by omega))
                  go_wp2
                  go_meet
                  exact ⟨_,_,E,rfl,rfl,rfl⟩
              case rest =>
               clear G Q' q';obtain ⟨q',r',Q',rfl,rfl,rfl⟩:=hcut;have E:=Lib.hid (div_end hR P P2 eY.out eV.out Q.out Z.out Q'.out)
               go_wp2
               go_ret2
               exact ⟨ret_words E.out.1 E.out.2,rfl⟩
theorem div64_any (h l y:Int) (hh:0≤h) (hl:U64 l) (hy:h<y) (hy':U64 y) (w:World) :
  Calls Tryz.prog 203 #[.int .u64 h,.int .u64 l,.int .u64 y] w fun e w'=>e=.returned (.tuple #[.int .u64 ((h*18446744073709551616+l) / y),.int .u64 ((h*18446744073709551616+l) % y)])∧∃ n,w'=w.drewN n:=by
 by_cases h0:h=0
 ·subst h0
  refine (div64_small l y hl hy hy' w).mono ?_;rintro e w' ⟨rfl,hw⟩;refine ⟨ret_words ?_ ?_,hw⟩ <;> simp
 ·refine (div64_big h l y (by omega) hl hy hy' w).mono ?_
  rintro e w' ⟨rfl,rfl⟩;exact ⟨rfl,0,rfl⟩
abbrev Bad (n up down:Int):Prop:=n<0∨up<0∨down≤0
def fracI (n up down:Int):Int:=if Bad n up down then 0 else min (n*up / down) 9223372036854775807
def fracUpI (n up down:Int):Int:=if Bad n up down then 0 else min (if n*up % down=0 then n*up / down else n*up / down+1) 9223372036854775807
def leftB (n up down:Int):Bool:=if Bad n up down then false else if down≤mhi n up then false else decide (0<n*up % down)
theorem ret_part {k:IntKind} {a b:Int} {c d:Bool} (h1:a=b) (h2:c=d):Ending.returned (.tuple #[.int k a,.bool c])=.returned (.tuple #[.int k b,.bool d]):=by rw [h1,h2]
theorem frac_bad {n up down:Int} (h:Bad n up down):fracI n up down=0∧leftB n up down=false:=by
 unfold fracI leftB;rw [if_pos h,if_pos h];exact ⟨rfl,rfl⟩
theorem mul_pos_i64 {n up:Int} (hn:0≤n) (hu:0≤up) (n1:I64 n) (u1:I64 up):U64 n∧U64 up:=by
 obtain ⟨_,a⟩:=n1;obtain ⟨_,b⟩:=u1;exact ⟨⟨hn,by omega⟩,⟨hu,by omega⟩⟩
theorem frac_far {n up down:Int} (hb:¬ Bad n up down) (k:down≤mhi n up):fracI n up down=9223372036854775807∧leftB n up down=false:=by
 unfold fracI leftB;rw [if_neg hb,if_neg hb,if_pos k];refine ⟨?_,rfl⟩;unfold Bad at hb;have e:=halves n up;have l:=mlo_u64 n up;obtain ⟨l1,l2⟩:=l;have:18446744073709551616≤n*up / down:=Int.le_ediv_of_mul_le (by omega) (by omega)
 omega
theorem frac_near {n up down:Int} (hb:¬ Bad n up down) (k:mhi n up<down) :
  capI 0 ((mhi n up*18446744073709551616+mlo n up) / down)=fracI n up down∧decide (0<(mhi n up*18446744073709551616+mlo n up) % down)=leftB n up down:=by
 rw [←halves];unfold fracI leftB capI;rw [if_neg hb,if_neg hb,if_neg (show ¬ down≤mhi n up by omega)]
 refine ⟨?_,rfl⟩
 split <;> omega
theorem parts_any (n up down:Int) (hn:I64 n) (hu:I64 up) (hd:I64 down) (w:World) :
  Calls Tryz.prog 196 #[.int .i64 n,.int .i64 up,.int .i64 down] w fun e w'=>e=.returned (.tuple #[.int .i64 (fracI n up down),.bool (leftB n up down)])∧∃ k,w'=w.drewN k:=by
 by_cases hb:Bad n up down
 ·obtain ⟨f1,f2⟩:=frac_bad hb
  have F1:=Lib.hid f1;have F2:=Lib.hid f2;clear f1 f2;unfold Bad at hb
  by_cases b1:n<0
  ·go_enter Tryz.func196,Tryz.ntmps196
   go_wp2
   go_ret2
   exact ⟨ret_part F1.out.symm F2.out.symm,0,rfl⟩
  ·by_cases b2:up<0
   ·go_enter Tryz.func196,Tryz.ntmps196
    go_wp2
    go_ret2
    exact ⟨ret_part F1.out.symm F2.out.symm,0,rfl⟩
   ·have b3:down≤0:=by omega
    go_enter Tryz.func196,Tryz.ntmps196
    go_wp2
    go_ret2
    exact ⟨ret_part F1.out.symm F2.out.symm,0,rfl⟩
 ·have hb':=hb
  unfold Bad at hb;have n0:0≤n:=by omega
  have u0:0≤up:=by omega
  have d0:0<down:=by omega
  obtain ⟨nU,uU⟩:=mul_pos_i64 n0 u0 hn hu;have dU:U64 down:=⟨by omega,by have:=hd.2;omega⟩
  have n1:=hn.2;have u1:=hu.2;have d1:=hd.2;clear hb
  by_cases k:down≤mhi n up
  ·obtain ⟨f1,f2⟩:=frac_far hb' k
   have F1:=Lib.hid f1;have F2:=Lib.hid f2;clear f1 f2
   go_enter Tryz.func196,Tryz.ntmps196
   go_wp2_with fail
   refine (mul64_any _ _ nU uU _).mono ?_;rintro e w' ⟨rfl,rfl⟩;go_wp2_with fail
   go_ret2
   exact ⟨ret_part F1.out.symm F2.out.symm,0,rfl⟩
  ·have E:=Lib.hid (frac_near hb' (by omega))
   have m1:=mhi_u64 nU uU;have m2:=mlo_u64 n up;have m0:=m1.1;have k':mhi n up<down:=by omega
   have q0:0≤(mhi n up*18446744073709551616+mlo n up) / down:=Int.ediv_nonneg (by have:=m2.1;omega) (by omega)
   have q1:(mhi n up*18446744073709551616+mlo n up) / down<18446744073709551616:=Int.ediv_lt_of_lt_mul d0 (by have:=m2.2;omega)
   have q2:=Int.emod_nonneg (mhi n up*18446744073709551616+mlo n up) (show down≠0 by omega)
   generalize hq:(mhi n up*18446744073709551616+mlo n up) / down=q at *;generalize hr:(mhi n up*18446744073709551616+mlo n up) % down=r at *;have HQ:=Lib.hid hq;have HR:=Lib.hid hr;clear hq hr
   go_enter Tryz.func196,Tryz.ntmps196
   go_wp2_with fail
   refine (mul64_any _ _ nU uU _).mono ?_;rintro e w' ⟨rfl,rfl⟩;go_wp2_with fail
   refine (div64_any _ _ _ m0 m2 k' dU _).mono ?_;rintro e w' ⟨rfl,j,rfl⟩;rw [HQ.out,HR.out];go_wp2_with fail
   refine (bounded_any _ _ ⟨by omega,by omega⟩ ⟨q0,by omega⟩ _).mono ?_
   rintro e w' ⟨rfl,rfl⟩;go_wp2_with fail
   go_ret2
   exact ⟨ret_part E.out.1 E.out.2,_,rfl⟩
theorem frac_i64 (n up down:Int):I64 (fracI n up down)∧0≤fracI n up down:=by
 unfold fracI
 split
 ·exact ⟨⟨by omega,by omega⟩,by omega⟩
 ·rename_i h
  unfold Bad at h;have:0≤n*up / down:=Int.ediv_nonneg (Int.mul_nonneg (by omega) (by omega)) (by omega)
  exact ⟨⟨by omega,by omega⟩,by omega⟩
theorem fracUp_of {n up down:Int} (h:leftB n up down=true):sat (fracI n up down+1)=fracUpI n up down:=by
 unfold leftB at h;unfold fracI fracUpI
 split at h
 ·simp at h
 ·rename_i hb
  rw [if_neg hb,if_neg hb]
  split at h
  ·simp at h
  ·simp at h
   rw [if_neg (by omega)]
   unfold Bad at hb;have:0≤n*up / down:=Int.ediv_nonneg (Int.mul_nonneg (by omega) (by omega)) (by omega)
   unfold sat
   split <;> (try split) <;> omega
theorem fracUp_not {n up down:Int} (h:leftB n up down=false):fracI n up down=fracUpI n up down:=by
 by_cases hb:Bad n up down
 ·unfold fracI fracUpI;rw [if_pos hb,if_pos hb]
 ·by_cases k:down≤mhi n up
  ·rw [(frac_far hb k).1]
   unfold fracUpI;rw [if_neg hb];have e:=halves n up;have l:=mlo_u64 n up;obtain ⟨l1,l2⟩:=l;unfold Bad at hb;have:18446744073709551616≤n*up / down:=Int.le_ediv_of_mul_le (by omega) (by omega)
   split <;> omega
  ·unfold leftB at h
   rw [if_neg hb,if_neg k] at h;unfold fracI fracUpI;rw [if_neg hb,if_neg hb];unfold Bad at hb;have:=Int.emod_nonneg (n*up) (show down≠0 by omega)
   simp at h;rw [if_pos (by omega)]
theorem frac_any (n up down:Int) (hn:I64 n) (hu:I64 up) (hd:I64 down) (w:World) :
  Calls Tryz.prog 184 #[.int .i64 n,.int .i64 up,.int .i64 down] w fun e w'=>e=.returned (.int .i64 (fracI n up down))∧∃ k,w'=w.drewN k:=by
 go_enter Tryz.func184,Tryz.ntmps184
 go_wp2_with fail
 refine (parts_any _ _ _ hn hu hd _).mono ?_;rintro e w' ⟨rfl,j,rfl⟩;go_wp2_with fail
 go_ret
 exact ⟨rfl,_,rfl⟩
theorem fracUp_any (n up down:Int) (hn:I64 n) (hu:I64 up) (hd:I64 down) (w:World) :
  Calls Tryz.prog 185 #[.int .i64 n,.int .i64 up,.int .i64 down] w fun e w'=>e=.returned (.int .i64 (fracUpI n up down))∧∃ k,w'=w.drewN k:=by
 obtain ⟨f1,f2⟩:=frac_i64 n up down
 by_cases h:leftB n up down=true
 ·have F:=Lib.hid (fracUp_of h)
  go_enter Tryz.func185,Tryz.ntmps185
  go_wp2_with fail
  refine (parts_any _ _ _ hn hu hd _).mono ?_;rintro e w' ⟨rfl,j,rfl⟩;go_wp2_with fail
  refine (add_any _ _ f1 ⟨by omega,by omega⟩ _).mono ?_
  rintro e w' ⟨rfl,rfl⟩;go_wp2_with fail
  go_ret
  exact ⟨ret_int F.out,_,rfl⟩
 ·have h':leftB n up down=false:=by simpa using h
  have F:=Lib.hid (fracUp_not h');clear h
  go_enter Tryz.func185,Tryz.ntmps185
  go_wp2_with fail
  refine (parts_any _ _ _ hn hu hd _).mono ?_;rintro e w' ⟨rfl,j,rfl⟩;go_wp2_with fail
  go_ret
  exact ⟨ret_int F.out,_,rfl⟩
end Go.Proofs.YthdengocipfgiaaGreat
