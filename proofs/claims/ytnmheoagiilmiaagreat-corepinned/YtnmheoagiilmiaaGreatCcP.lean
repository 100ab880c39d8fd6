import Derived.Test.YtnmheoagiilmiaaGreatCcK
/- A part of what core's laws stand on. -/
set_option linter.unusedVariables false
set_option linter.unusedSimpArgs false
set_option maxRecDepth 100000
set_option maxHeartbeats 1600000
namespace Go.Proofs.YtnmheoagiilmiaaGreat.W.C
open Go.RowKit Go.Proofs.YtnmheoagiilmiaaGreat.W
attribute [local go_sem] Oper.semAt_some
theorem c_EndsC {w:World} {own:Nat→Option Tag} {y:Lay} {s:St} (h:Cor w own y s) (hn:s.tn<1073741824) (i:Int) (hi:HT.kw (0,i)):Calls Tryz.prog 10 #[ptr y.c,.int .i64 i] w fun e w'=>e=.returned (.tuple #[.int .i64 ((s.T (0,i)).getD 0),.bool (s.T (0,i)).isSome])∧To w own y s w':=by
 have dr:=c_readyC h
 have dt:=k_tat h (0,i) hi hn
 have ht:w.cell? ⟨y.c,9,none⟩=some (ptr y.t):=by
  obtain ⟨v,G,h2,_⟩:=h.coreAll
  exact cellL h2 9 _ rfl
 clear h
 go_enter Tryz.func10,Tryz.ntmps10
 go_wp2_with fail
 with_reducible refine dr.mono ?_
 rintro e w1 ⟨rfl,rfl⟩
 go_wp2_with fail
 with_reducible refine dt.mono ?_
 rintro e w2 ⟨rfl,h2⟩
 go_wp2_with fail
 go_ret2
 exact ⟨rfl,h2⟩
theorem c_Ends {w:World} {own:Nat→Option Tag} {c:Nat} {s:St} (h:Wk w own c s) {K:Nat} (hI:Inv K 0 s) (hl:0<s.last) (i:Int) (hi:HT.kw (0,i)):Calls Tryz.prog 10 #[ptr c,.int .i64 i] w fun e w'=>e=.returned (.tuple #[.int .i64 ((s.T (0,i)).getD 0),.bool (s.T (0,i)).isSome])∧∃ own',Wk w' own' c s∧Nx w own w' own':=by
 obtain ⟨an,⟨y,rfl,han,h1⟩ | ⟨_,rfl,_,_⟩,ha⟩:=h
 ·refine (c_EndsC h1 (by have:=(hI.bd (by omega)).tn;omega) i hi).mono ?_
  rintro e w' ⟨rfl,own',k1,k2⟩
  exact ⟨rfl,own',⟨an,Or.inl ⟨y,rfl,han,k1⟩,ha⟩,k2⟩
 ·exact absurd hl (by show ¬ (0:Int)<0;omega)
end Go.Proofs.YtnmheoagiilmiaaGreat.W.C
