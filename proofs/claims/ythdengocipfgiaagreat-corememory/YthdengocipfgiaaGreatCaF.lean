import Derived.Test.YthdengocipfgiaaGreatRows
import Derived.Test.YthdengocipfgiaaGreatCaA
/- A part of what core's laws stand on. -/
set_option linter.unusedVariables false
set_option linter.unusedSimpArgs false
set_option maxRecDepth 100000
set_option maxHeartbeats 800000
namespace Go.Proofs.YthdengocipfgiaaGreat.W
open Go.RowKit
theorem infoI:(Tryz.prog.info? 2).map (fun i=>(i.zero,i.size,i.bytes))=some (some (.int .i64 0),1,8):=by kernel_rfl
def Rg (w:World) (r:Nat) (ys:List Int):Prop :=
 ∃ zs:List Int,ys.length+zs.length=8∧w.heap[r]?=some (.cells (ints (ys ++ zs) ++ [Value.int .i64 (ys.length:Int)]).toArray 216 (0,0))
theorem Rg.lt {w:World} {r:Nat} {ys:List Int} (h:Rg w r ys):r<w.heap.size:=by obtain ⟨_,_,h⟩:=h;exact lt_of_row h
theorem Rg.keep {w w':World} {r:Nat} {ys:List Int} {B:Nat} (h:Rg w r ys) (hb:Below B w w') (hr:r<B):Rg w' r ys:=by
 obtain ⟨zs,h1,h2⟩:=h;exact ⟨zs,h1,by rw [hb.block r hr];exact h2⟩
theorem Rg.off {w w':World} {r q:Nat} {ys:List Int} (h:Rg w r ys) (hb:w.grownBy w' (some q)) (hr:r≠q):Rg w' r ys:=by
 have hl:=h.lt;obtain ⟨zs,h1,h2⟩:=h;exact ⟨zs,h1,by rw [hb.block r hl (by simpa using hr)];exact h2⟩
theorem ring_new (w:World):Calls Tryz.prog 122 #[] w fun e w'=>e=.returned (.pointer (some ⟨w.heap.size,0,none⟩))∧Rg w' w.heap.size []∧Below w.heap.size w w':=by
 go_enter Tryz.func122,Tryz.ntmps122
 go_wp2
 go_ret
 refine ⟨rfl,⟨[0,0,0,0,0,0,0,0],rfl,?_⟩,(Below.refl _ _).alloc (Nat.le_refl _) _⟩;rw [heap_alloc_new];rfl
theorem set_last (l:List Value) (u v:Value) (n:Nat) (h:l.length=n):(l ++ [u]).set n v=l ++ [v]:=by
 subst h;simp
theorem set_mid (a:List Int) (b:Int) (c:List Int) (t:List Value) (x:Int) (n:Nat) (h:a.length=n):(ints (a ++ b :: c) ++ t).set n (.int .i64 x)=ints (a ++ x :: c) ++ t:=by
 subst h;simp
theorem ring_push (r:Nat) (ys:List Int) (x:Int) (w:World) (h:Rg w r ys) :
  Calls Tryz.prog 108 #[.pointer (some ⟨r,0,none⟩),.int .i64 x] w fun e w'=>e=.returned (.tuple #[])∧Rg w' r (last8 (ys ++ [x]))∧w.grownBy w' (some r):=by
 obtain ⟨zs,h1,h2⟩:=h
 by_cases h8:ys.length=8
 ·obtain rfl:zs=[]:=List.eq_nil_of_length_eq_zero (by omega)
  rw [List.append_nil,h8] at h2;have h3:w.cell? ⟨r,8,none⟩=some (.int .i64 8):=cellL h2 8 _ (by rw [List.getElem?_append_right (by simp;omega)];simp [h8])
  have H2:=Lib.hid h2;have H8:=Lib.hid h8;clear h1 h2 h8
  go_enter Tryz.func108,Tryz.ntmps108
  go_wp2
  go_still_tail 8,(by kernel_rfl)
  change wpList _ _ _ _ _ w.drew;have hd:=grown_drew (World.grownBy.refl w (some r));have H2':Hid (w.drew.heap[r]?=some (.cells (ints ys ++ [Value.int .i64 ((8:Nat):Int)]).toArray 216 (0,0))):=H2;generalize w.drew=w1 at hd H2' ⊢;refine wpList_copy_in rfl (.tmp 12) (.tmp 16) 217 217 rfl 2 Tryz.underlying217 (by kernel_rfl) r 0 8 8 ⟨r,1,none⟩ 7 7 rfl rfl _ _ H2'.out (ints (ys.drop 1)) (by simp [H8.out]) ?_ (by simp [H8.out]) (ones_i64 _) ?_
  ·intro j v hv
   have hj:j<7:=by have:=(List.getElem?_eq_some_iff.1 hv).1;simp [H8.out] at this;omega
   rw [show (⟨r,1,none⟩:Addr).add j=⟨r,j+1,none⟩ by unfold Addr.add;split <;> simp_all;omega]
   refine cellL H2'.out _ _ ?_;rw [List.getElem?_append_left (by simp [H8.out];omega)]
   simpa [List.getElem?_drop] using hv
  intro w2 HG hg2;have hg:=grown_trans hd hg2
  have eC:splice (ints ys ++ [Value.int .i64 ((8:Nat):Int)]) 0 (ints (ys.drop 1))=ints (ys.drop 1 ++ ys.drop 7) ++ [Value.int .i64 8]:=by
   have h8:=H8.out
   match ys,h8 with
   | [a,b,c,d,e,f,g,h],_=>rfl
  rw [eC] at HG;have c8:w2.cell? ⟨r,8,none⟩=some (.int .i64 8):=cellL HG.out 8 _ (by rw [List.getElem?_append_right (by simp [H8.out])];simp [H8.out])
  clear hd hg2 H2' eC H2 h3;go_wp2_with (with_reducible refine wpList_store_in rfl 3 (.tmp 24) (.tmp 22) rfl (by kernel_rfl) r 8 rfl .i64 7 rfl _ _ HG.out (by simp [H8.out]) ?_;intro w3 HG3 hg3)
  have hg':=grown_trans hg hg3;have c8':w3.cell? ⟨r,8,none⟩=some (.int .i64 7):=cellL HG3.out 8 _ (by simp [H8.out])
  clear c8 hg hg3
  go_still_tail 9,(by kernel_rfl)
  change wpList _ _ _ _ _ w3.drew;have hd:=grown_drew hg';have HG4:Hid (w3.drew.heap[r]?=_):=HG3;have c8:w3.drew.cell? ⟨r,8,none⟩=some (.int .i64 7):=c8';generalize w3.drew=w4 at hd HG4 c8 ⊢;refine wpList_store_in rfl 2 (.tmp 33) (.tmp 30) rfl (by kernel_rfl) r 7 rfl .i64 x rfl _ _ HG4.out (by simp [H8.out]) ?_
  intro w5 HG5 hg5;have c9:w5.cell? ⟨r,8,none⟩=some (.int .i64 7):=cellL HG5.out 8 _ (by simp [H8.out])
  have hg6:=grown_trans hd hg5;clear HG HG3 HG4 hd hg' hg5 c8 c8';go_wp2_with (with_reducible refine wpList_store_in rfl 3 (.tmp 40) (.tmp 38) rfl (by kernel_rfl) r 8 rfl .i64 8 rfl _ _ HG5.out (by simp [H8.out]) ?_;intro w6 HG6 hg7)
  go_end0
  refine ⟨rfl,⟨[],?_,?_⟩,grown_trans hg6 hg7⟩
  ·rw [last8_push H8.out];simp [H8.out]
  ·rw [HG6.out,last8_push H8.out]
   have h8:=H8.out
   match ys,h8 with
   | [a,b,c,d,e,f,g,h],_=>rfl
 ·obtain ⟨n,hn⟩:∃ n,ys.length=n:=⟨_,rfl⟩
  obtain ⟨z,zs,rfl⟩:∃ z zs',zs=z :: zs':=by
   cases zs with
   | nil=>simp at h1;omega
   | cons z zs=>exact ⟨z,zs,rfl⟩
  have h7:n<8:=by simp at h1;omega
  have hd8:((n:Int) == 8)=false:=by simp;omega
  have hi7:(n:Int)<8:=by omega
  rw [hn] at h2;have lC:(ints (ys ++ z :: zs) ++ [Value.int .i64 (n:Int)]).length=9:=by simp at h1 ⊢;omega
  have h3:w.cell? ⟨r,8,none⟩=some (.int .i64 (n:Int)):=cellL h2 8 _ (by rw [List.getElem?_append_right (by simp at h1 ⊢;omega)];simp at h1 ⊢;simp [h1])
  have H2:=Lib.hid h2;have HN:=Lib.hid hn;have LC:=Lib.hid lC;have H1:=Lib.hid h1;clear h1 h2 h8 hn lC
  go_enter Tryz.func108,Tryz.ntmps108
  go_wp2
  go_still_tail 9,(by kernel_rfl)
  change wpList _ _ _ _ _ w.drew;have hd:=grown_drew (World.grownBy.refl w (some r));have HG4:Hid (w.drew.heap[r]?=_):=H2;generalize w.drew=w4 at hd HG4 ⊢;refine wpList_store_in rfl 2 (.tmp 33) (.tmp 30) rfl (by kernel_rfl) r n rfl .i64 x rfl _ _ HG4.out (by rw [LC.out];omega) ?_
  intro w5 HG5 hg5;rw [set_mid _ _ _ _ _ _ HN.out] at HG5;have lC:(ints (ys ++ x :: zs) ++ [Value.int .i64 (n:Int)]).length=9:=by have:=H1.out;simp at this ⊢;omega
  have LC':=Lib.hid lC;have c9:w5.cell? ⟨r,8,none⟩=some (.int .i64 (n:Int)):=cellL HG5.out 8 _ (by have h1:=H1.out;rw [List.getElem?_append_right (by simp at h1 ⊢;omega)];simp at h1 ⊢;simp [h1])
  have hg6:=grown_trans hd hg5;clear HG4 hd hg5 lC h3 H2;go_wp2_with (with_reducible refine wpList_store_in rfl 3 (.tmp 40) (.tmp 38) rfl (by kernel_rfl) r 8 rfl .i64 ((n:Int)+1) rfl _ _ HG5.out (by rw [LC'.out];omega) ?_;intro w6 HG6 hg7)
  go_end0
  refine ⟨rfl,⟨zs,?_,?_⟩,grown_trans hg6 hg7⟩
  ·have:=H1.out;rw [last8_room (by rw [HN.out];exact h7)];simp at this ⊢;omega
  ·rw [HG6.out,last8_room (by rw [HN.out];exact h7),set_last _ _ _ _ (by have:=H1.out;simp at this ⊢;omega)]
   simp [HN.out]
def NewI (w:World) (ys:List Int) (e:Ending) (w':World):Prop :=
 ∃ g cap m,Hid (m=ys.length)∧e=.returned (.slice (some ⟨g,0,none⟩) m cap)∧w'.ownsRow w.heap.size 2 1 (.slice (some ⟨g,0,none⟩) m cap) m (ints ys)∧Below w.heap.size w w'
theorem Rg.lies {w:World} {r:Nat} {ys:List Int} (h:Rg w r ys):Lies w w.heap.size (some ⟨r,0,none⟩) (ints ys):=by
 have hl:=h.lt;obtain ⟨zs,h1,h2⟩:=h;intro j u hu;refine ⟨_,rfl,hl,?_⟩;rw [add_lit0];refine cellL h2 j u ?_;have hj:=(List.getElem?_eq_some_iff.1 hu).1;rw [List.getElem?_append_left (by simp at hj ⊢;omega)]
 show (List.map _ (ys ++ zs))[j]?=_;rw [List.map_append,List.getElem?_append_left (by simpa using hj)]
 exact hu
theorem Rg.le8 {w:World} {r:Nat} {ys:List Int} (h:Rg w r ys):ys.length≤8:=by obtain ⟨zs,h1,_⟩:=h;omega
theorem Rg.cell8 {w:World} {r:Nat} {ys:List Int} (h:Rg w r ys):w.cell? ⟨r,8,none⟩=some (.int .i64 (ys.length:Int)):=by
 obtain ⟨zs,h1,h2⟩:=h;exact cellL h2 8 _ (by rw [List.getElem?_append_right (by simp;omega)];simp [h1])
theorem ring_list (r:Nat) (ys:List Int) (w:World) (h:Rg w r ys) :
  Calls Tryz.prog 172 #[.pointer (some ⟨r,0,none⟩)] w (NewI w ys):=by
 obtain ⟨i0,hi,hz0,hz1,hz2⟩:=info_parts infoI;have h8:=h.le8;have hc:=h.cell8;have hr:=h.lt;obtain ⟨n,hn⟩:∃ n,ys.length=n:=⟨_,rfl⟩;rw [hn] at h8 hc;have h8i:(n:Int)≤8:=by omega
 have HN:=Lib.hid hn;clear hn
 go_enter Tryz.func172,Tryz.ntmps172
 go_wp2_with (at_make;refine wpList_make_row rfl (.tmp 7) (.tmp 7) 217 rfl 2 i0 (.int .i64 0) Tryz.underlying217 hi hz0 hz1 rfl _ _ (n:Int) (n:Int) n n rfl rfl rfl rfl (by omega) (by rw [hz2];omega) (by omega) ?_;intro w1 HG hg1 hs1)
 have h1:Rg w1 r ys:=h.keep (grown_below hg1) hr;have hc1:=h1.cell8;rw [HN.out] at hc1;have HS:=Lib.hid hs1;clear hs1 hc h
 go_still_tail 9,(by kernel_rfl)
 change wpList _ _ _ _ _ w1.drew;have hd:=below_drewN (grown_below hg1) 1;have HG2:Hid (w1.drew.heap[w.heap.size]?=_):=HG;have h2:Rg w1.drew r ys:=h1;change Below _ w w1.drew at hd;generalize w1.drew=w2 at hd HG2 h2 ⊢;refine wpList_copy_new rfl (.tmp 9) (.tmp 17) 217 217 rfl 2 Tryz.underlying217 i0 hi hz1 w.heap.size n n (some ⟨r,0,none⟩) 8 (ints ys) (.int .i64 0) w2.heap.size w.heap.size w rfl rfl HG2 (by simp [HN.out]) (by omega) (by omega) h2.lies (ones_i64 _) hd (Nat.le_refl _) ?_
 intro w3 own3 hb3 hlt3;clear HG HG2 hg1 h1 hc1 hd h2
 go_wp2
 go_ret
 exact ⟨_,_,n,HN.out.symm,rfl,own3,hb3⟩
end Go.Proofs.YthdengocipfgiaaGreat.W
