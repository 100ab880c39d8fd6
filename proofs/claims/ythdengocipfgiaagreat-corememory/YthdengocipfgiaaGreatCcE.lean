import Derived.Test.YthdengocipfgiaaGreatCcC
import Derived.Test.YthdengocipfgiaaGreatCaP
/- A part of what core's laws stand on. -/
set_option linter.unusedVariables false
set_option linter.unusedSimpArgs false
set_option maxRecDepth 100000
set_option maxHeartbeats 3200000
namespace Go.Proofs.YthdengocipfgiaaGreat.W.C
open Go.RowKit Go.Proofs.YthdengocipfgiaaGreat.W
attribute [local go_sem] Oper.semAt_some
theorem account_lim {s:St} {e:Ev} (h:1000<e.s∨1000<e.r):s.account e=(s,1):=by unfold St.account;rw [if_pos h]
theorem account_no {s:St} {e:Ev} (h:¬ (1000<e.s∨1000<e.r)) (h2:accC s.F e.n e.l≠0):s.account e=(s,(accC s.F e.n e.l:Int)):=by unfold St.account;rw [if_neg h,if_pos h2]
theorem account_yes {s:St} {e:Ev} (h:¬ (1000<e.s∨1000<e.r)) (h2:accC s.F e.n e.l=0):s.account e=({ s with A:=accA s.A s.F e.n e.l,tk:=s.tk.set e.n (newTk (s.tk.a e.n) e.s e.r) },0):=by unfold St.account;rw [if_neg h,if_neg (by simpa using h2)]
abbrev evO (k n l z r a m c v p:Int):Obj:=.cells #[.int .i64 k,.int .i64 n,.int .i64 l,.int .i64 z,.int .i64 r,.int .i64 a,.int .i64 m,.int .i64 c,.int .i64 v,.int .i64 p] 29
theorem accC_is {F:Int→Option Fn} {x n:Int} (h:accC F x n=0):0≤x∧x<16:=by
 unfold accC at h
 split at h
 ·rename_i q
  rw [Bool.and_eq_true] at q;unfold isA at q
  simpa using q.1
 ·cases h
theorem c_setAccount {w:World} {own:Nat→Option Tag} {y:Lay} {s:St} (h:Cor w own y s) {K:Nat} (hI:Inv K 0 s) (k n l z r a m c v p:Int) :
    Calls Tryz.prog 45 #[ptr y.c,.agg #[.int .i64 k,.int .i64 n,.int .i64 l,.int .i64 z,.int .i64 r,.int .i64 a,.int .i64 m,.int .i64 c,.int .i64 v,.int .i64 p]] w fun e w'=>e=.returned (.int .i64 (s.account ⟨k,n,l,z,r,a,m,c,v,p⟩).2)∧Ty w own y (s.account ⟨k,n,l,z,r,a,m,c,v,p⟩).1 w':=by
  have hb0:Below w.heap.size w (w.alloc (evO k n l z r a m c v p)):=(Below.refl _ _).alloc (Nat.le_refl _) _;have hrow0:=heap_alloc_new w (evO k n l z r a m c v p);have hf0:=h.fresh (Nat.le_refl w.heap.size)
  by_cases hlim:1000<z∨1000<r
  · have HE:=Lib.hid (account_lim (s:=s) (e:=⟨k,n,l,z,r,a,m,c,v,p⟩) hlim)
    clear hI
    by_cases h1:1000<z
    · have d:decide (z > 1000)=true:=decide_eq_true h1
      clear h1 hlim
      go_enter Tryz.func45,Tryz.ntmps45
      go_upto_region 1 with (fail)
      have y3:=cell_of_row _ _ 3 _ _ _ hrow0;have y4:=cell_of_row _ _ 4 _ _ _ hrow0;go_wp2_with fail
      go_ret
      rw [HE.out];exact ⟨rfl,Ty.of ⟨own,h.below hb0,Nx.below own hb0⟩⟩
    · have d:decide (z > 1000)=false:=by simp;omega
      have d2:decide (r > 1000)=true:=by rcases hlim with q | q;exact absurd q h1;exact decide_eq_true q
      clear h1 hlim
      go_enter Tryz.func45,Tryz.ntmps45
      go_upto_region 1 with (fail)
      have y3:=cell_of_row _ _ 3 _ _ _ hrow0;have y4:=cell_of_row _ _ 4 _ _ _ hrow0;go_wp2_with fail
      go_ret
      rw [HE.out];exact ⟨rfl,Ty.of ⟨own,h.below hb0,Nx.below own hb0⟩⟩
  · have d:decide (z > 1000)=false:=by simp;omega
    have d2:decide (r > 1000)=false:=by simp;omega
    obtain ⟨vv,hvv⟩:∃ vv:Int,(accC s.F n l:Int)=vv:=⟨_,rfl⟩;have hA:vv≠0→accA s.A s.F n l=s.A:=fun q=>by unfold accA;rw [if_neg (by omega)]
    have HE1:Hid (vv≠0→s.account ⟨k,n,l,z,r,a,m,c,v,p⟩=(s,vv)):=Lib.hid (fun q=>by rw [account_no hlim (by show accC s.F n l≠0;omega)];show (s,(accC s.F n l:Int))=_;rw [hvv])
    have HE2:Hid (vv=0→s.account ⟨k,n,l,z,r,a,m,c,v,p⟩=({ s with A:=accA s.A s.F n l,tk:=s.tk.set n (newTk (s.tk.a n) z r) },0)):=Lib.hid (fun q=>account_yes hlim (by show accC s.F n l=0;omega))
    have HN:Hid (vv=0→0≤n∧n<16):=Lib.hid (fun q=>accC_is (F:=s.F) (n:=l) (by omega))
    have hpn:s.tk.n<maxLen:=by
                                     have:=(hI.bd (by omega)).tkn;have:(1073741824:Nat)<maxLen:=by decide
                                     omega
    have HPN:=Lib.hid hpn;have HA:=Lib.hid hA;have HVV:=Lib.hid hvv;clear hlim hA hvv hpn hI
    go_enter Tryz.func45,Tryz.ntmps45
    go_upto_region 1 with (fail)
    have h1:=h.below hb0;have HN1:=Lib.hid (Nx.below own hb0);obtain ⟨Hb,hHb⟩:∃ Hb,w.heap.size=Hb:=⟨_,rfl⟩;rw [hHb] at hrow0 hf0;rw [hHb];have HR1:=Lib.hid hrow0;have HF1:=Lib.hid hf0;clear hrow0 hf0 hb0 hHb h;generalize w.alloc (evO k n l z r a m c v p)=w1 at h1 HN1 HR1 ⊢;have y1:=cell_of_row _ _ 1 _ _ _ HR1.out;have y2:=cell_of_row _ _ 2 _ _ _ HR1.out;have y3:=cell_of_row _ _ 3 _ _ _ HR1.out;have y4:=cell_of_row _ _ 4 _ _ _ HR1.out;have q2:=h1.c2;go_wp2_with fail
    go_still_tail 8,(by kernel_rfl)
    change wpList _ _ _ _ _ w1.drew;have ka:=k_lset h1.drew n l;rw [HVV.out] at ka;have KA:=Lib.hid ka;have HR1d:Hid (w1.drew.heap[Hb]?=_):=HR1;have HN1d:=Lib.hid HN1.out.drew;clear y1 y2 y3 y4 q2 h1 ka HR1 HN1;go_wp2_with fail
    with_reducible refine KA.out.mono ?_
    rintro e w2 ⟨rfl,o2,h2,n2⟩;have HR2:=Lib.hid (n2.blk HF1.out HR1d.out);have HF2:=Lib.hid (n2.none HF1.out (lt_of_row HR1d.out));have HN2:=Lib.hid (HN1d.out.trans n2);clear KA n2 HR1d HN1d HF1
    by_cases hz:vv=0
    · subst hz
      obtain ⟨s2,hs2⟩:∃ s2:St,({ s with A:=accA s.A s.F n l,F:=s.F }:St)=s2:=⟨_,rfl⟩;rw [hs2] at h2;have htk:s2.tk=s.tk:=by rw [←hs2]
      have hn:=HN.out rfl;have hwf:(KL n).wf=true:=wfK (by omega) (by omega)
      have HE:=Lib.hid (HE2.out rfl);have HS2:=Lib.hid hs2;have HTK:=Lib.hid htk;have HWF:=Lib.hid hwf;clear HE1 HE2 HN HA HVV hs2 htk hn;have y1:=cell_of_row _ _ 1 _ _ _ HR2.out;have q3:=h2.c3
      cases hk:s2.tk.a n with
      | none =>
        have lk:=h2.lbN hk hwf;have lk1:=fun j=>(h2.drewN j).lbN hk hwf;have lk2:=h2.drew.lbN hk hwf;have HK:=Lib.hid hk;clear hk hwf;go_wp2_with fail
        go_quiet (fail)
        have h3:=h2.drewN nq;have HR3:Hid ((w2.drewN nq).heap[Hb]?=_):=HR2;have HN3:=Lib.hid (HN2.out.trans (⟨(Only.refl _ _).drewN nq,fun _ q=>Or.inl q⟩:Nx w2 o2 (w2.drewN nq) o2));clear y1 q3 lk lk1 lk2 h2 HR2 HN2;generalize w2.drewN nq=w3 at h3 HR3 HN3 ⊢;have y1:=cell_of_row _ _ 1 _ _ _ HR3.out;have y3:=cell_of_row _ _ 3 _ _ _ HR3.out;have y4:=cell_of_row _ _ 4 _ _ _ HR3.out;have q3:=h3.c3;have HH:=Lib.hid h3;have HTL:=Lib.hid (show s2.tk.n<maxLen by rw [HTK.out];exact HPN.out)
        have KN:=Lib.hid (b_new z r w3.drew);go_wp2_with fail
        go_region_with ((go_at_call 75;with_reducible refine KN.out.mono ?_;rintro e w5 ⟨rfl,hB,hb5⟩;have hc5:=HH.out.drew.below hb5;have q3b:=hc5.c3;have hr5:=(Only.of_below (S:=fun _=>False) hb5).blk (fun q=>q) HR3.out;have y1b:=cell_of_row _ _ 1 _ _ _ hr5;obtain ⟨w6,hrun,m6,g6⟩:=hc5.mbT.run_set Tryz.underlying53 HTL.out HWF.out (ptr w3.heap.size);have HM6:=Lib.hid m6;have HG6:=Lib.hid g6;have HB:=Lib.hid hB;have HB5:=Lib.hid hb5;clear m6 g6 hB hc5 hr5 hb5))
        all_goals
         (
          obtain ⟨o7,h7,n7⟩:=Cor.newBk (b:=w3.heap.size) HH.out.drew (Nat.le_refl w3.heap.size) HB.out HB5.out (MpT.newAt HM6.out (fun j u hj=>by rw [show (y.withK n w3.heap.size).bk j=y.bk j from if_neg hj]) (by rw [show (y.withK n w3.heap.size).bk n=w3.heap.size from if_pos rfl])) HG6.out
          have N7:=Lib.hid (HN3.out.trans (Nx.trans ⟨(Only.refl w3 _).drewN 1,fun _ q=>Or.inl q⟩ n7));have H7:=Lib.hid h7;clear n7 hrun q3b y1b h7 y1 y3 y4 q3;go_wp2_with fail
          go_ret
          rw [HE.out];refine ⟨rfl,y.withK n w3.heap.size,rfl,rfl,o7,?_,N7.out⟩;have e1:newTk (s.tk.a n) z r=(bnd z,bnd r,bnd z):=by rw [←HTK.out,HK.out];rfl
          have h8:=H7.out;rw [e1,←HTK.out];rw [←HS2.out] at h8 ⊢;exact h8)
      | some tv =>
        obtain ⟨t0,t1,t2⟩:=tv;have lk:=h2.lbK hk hwf;have lk1:=fun j=>(h2.drewN j).lbK hk hwf;have lk2:=h2.drew.lbK hk hwf;have KB:=Lib.hid (fun j=>k_bset (h2.drewN j) hk z r);have HK:=Lib.hid hk;have y3:∀ j,(w2.drewN j).cell? ⟨Hb,3,none⟩=some (.int .i64 z):=fun j=>cell_of_row w2 _ 3 _ _ _ HR2.out;have y4:∀ j,(w2.drewN j).cell? ⟨Hb,4,none⟩=some (.int .i64 r):=fun j=>cell_of_row w2 _ 4 _ _ _ HR2.out;clear hk hwf;go_wp2_with fail
        go_quiet (fail)
        go_wp2_with (go_at_call 74;with_reducible refine (KB.out _).mono ?_;rintro e w3 ⟨rfl,o3,h3,n3⟩)
        go_ret
        rw [HE.out];refine ⟨rfl,Ty.of ⟨o3,?_,HN2.out.trans (Nx.trans ⟨(Only.refl _ _).drewN _,fun _ q=>Or.inl q⟩ n3)⟩⟩;have e1:newTk (s.tk.a n) z r=(bnd z,bnd r,min t2 (bnd z)):=by rw [←HTK.out,HK.out];rfl
        rw [e1,←HTK.out];rw [←HS2.out] at h3 ⊢;exact h3
    · have d5:(vv == 0)=false:=by simp [hz]
      rw [HA.out hz] at h2;have HE:=Lib.hid (HE1.out hz);clear hz HE1 HE2 HA HN HVV;go_wp2_with fail
      go_ret
      rw [HE.out];exact ⟨rfl,Ty.of ⟨o2,h2,HN2.out⟩⟩
end Go.Proofs.YthdengocipfgiaaGreat.W.C
