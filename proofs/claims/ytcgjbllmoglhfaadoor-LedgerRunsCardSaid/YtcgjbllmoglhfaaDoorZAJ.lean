/-
  LedgerRuns: the walk, given what is said of the program's ledger. (Made by gen_lgruns.py.)
-/
import Derived.Test.YtcgjbllmoglhfaaDoorZAC
import Derived.Deep.CutRange
import Derived.Deep.CutBlock
import Derived.StillTailTactics
import Derived.Test.YtcgjbllmoglhfaaDoorZAl
set_option maxRecDepth 100000
set_option maxHeartbeats 25600000
namespace Go.Proofs.YtcgjbllmoglhfaaDoor
open Go.RowKit
theorem lgruns_walk (C:LgSaid) (ao:Option Addr) (lb off nw cpw:Nat) (E:Nat→Int) (m0 m1:Int) (ao2:Option Addr) (lb2 off2 n cap:Nat) (F:Nat→Dd) (w:World) (hg:C.Good w) (hm0:isJ m0) (hm1:isJ m1)
  (hao:0 < nw→ao=some ⟨lb,off,none⟩∧lb < w.heap.size) (hE:∀i,i < nw→w.cell? ⟨lb,off+i,none⟩=some (.int .i64 (E i))) (hJ:∀i,i < nw→isJ (E i)) (hmw:nw≤maxLen) (hcw:nw≤cpw) (hcm:cpw≤maxLen)
  (hao2:0 < n→ao2=some ⟨lb2,off2,none⟩∧lb2 < w.heap.size)
  (hF:∀i,i < n→w.cell? ⟨lb2,off2+i*4,none⟩=some (.int .u8 (F i).1)∧w.cell? ⟨lb2,off2+i*4+1,none⟩=some (.int .i64 (F i).2.1)∧w.cell? ⟨lb2,off2+i*4+2,none⟩=some (.int .i64 (F i).2.2.1)∧w.cell? ⟨lb2,off2+i*4+3,none⟩=some (.int .u64 (F i).2.2.2))
  (hW:∀i,i < n→wfL (F i)) (hm:n≤maxLen):
  Calls Tryd.prog 3 #[.slice ao nw cpw, .agg #[.int .i64 m0, .int .i64 m1], .slice ao2 n cap] w fun r w'=>r= .returned (.bool true)∧Turned [] w w':=by
 obtain⟨hnp,hnd⟩:=new_both C hg ao lb off nw cpw E m0 m1 hao hE hJ hmw hcw hcm hm0 hm1
 unfold maxLen at hm hmw hcm
 have HF:=xhd hF
 have HAO:=xhd hao2
 have HWf:=xhd hW
 have HG:=xhd hg
 have AW:=xhd (fun V (t:Turned [] w V)=>awake18 C V (C.good hg t))
 have HNP:=xhd hnp
 have HND:=xhd hnd
 have HB0:=xhd (heap_alloc_new w (.cells #[.int .i64 m0, .int .i64 m1] 23))
 have HT0:=xhd ((Turned.refl [] w).alloc (.cells #[.int .i64 m0, .int .i64 m1] 23))
 clear hao hao2 hE hF hW hm0 hm1 hJ hg hnp hnd hcw hcm
 by_cases h12:12 < nw
 ·have h12z:(12:Int) < (nw:Int):=by omega
  go_enter Tryd.func3,Tryd.ntmps3
  go_wp2_with fail
  with_reducible refine (AW.out _ HT0.out).mono ?_
  rintro e w0 ⟨rfl,t0⟩
  have T0:=xhd (HT0.out.also18 t0)
  clear t0
  go_wp2
  go_ret
  exact⟨rfl,T0.out⟩
 have h12z:¬(12:Int) < (nw:Int):=by omega
 by_cases h60:100 < n
 ·have h60z:(100:Int) < (n:Int):=by omega
  go_enter Tryd.func3,Tryd.ntmps3
  go_wp2_with fail
  with_reducible refine (AW.out _ HT0.out).mono ?_
  rintro e w0 ⟨rfl,t0⟩
  have T0:=xhd (HT0.out.also18 t0)
  clear t0
  go_wp2
  go_ret
  exact⟨rfl,T0.out⟩
 ·have h60z:¬(100:Int) < (n:Int):=by omega
  go_enter Tryd.func3,Tryd.ntmps3
  go_wp2_with fail
  with_reducible refine (AW.out _ HT0.out).mono ?_
  rintro e w0 ⟨rfl,t0⟩
  have T0:=xhd (HT0.out.also18 t0)
  have B0:=xhd (t0.same HB0.out (by simp))
  clear t0 AW HB0 HT0
  go_wp2_with fail
  generalize w.heap.size=zb at B0 ⊢
  have B1:=xhd (show w0.drew.heap[zb]?=_ from B0.out)
  have T1:=xhd (T0.out.drew)
  obtain⟨x0,x1⟩:=cells2l B1.out
  go_region_held3 (fun V=>V.cell? ⟨zb,0,none⟩=some (.int .i64 m0)∧V.cell? ⟨zb,1,none⟩=some (.int .i64 m1))
   (first|exact⟨x0,x1⟩ |exact⟨v0,v1⟩ |exact⟨u0,u1⟩)
   (first
     |(go_at_call 7
       with_reducible refine (HNP.out _ T1.out).mono ?_
       rintro e V1 ⟨b,rfl,a1⟩
       have A1:=xhd a1
       obtain⟨v0,v1⟩:=cells2l (A1.out.t.same B1.out (by simp))
       clear a1)
     |(go_at_call 8
       with_reducible refine (HND.out _ (T1.out.also18 A1.out.t)).mono ?_
       rintro e V2 ⟨d,X1,rfl,r2,t2,n2⟩
       have HD0:Hid (DuL C w V2 b d zb _ _ _):=xhd (DuL.start HG.out T1.out B1.out A1.out r2 t2 n2)
       obtain⟨u0,u1⟩:=cells2l HD0.out.box
       clear r2 t2 n2)
     |fail)
  clear x0 x1 v0 v1 u0 u1 A1 T1 B1 T0 B0 HNP HND
  go_wp2_with fail
  go_loopw [40] (fun iv V=>∃(i:Nat) (g:Lg) (z:Nat) (bx:Obj),i≤n∧iv= .int .i64 i∧Hid (DuL C w V b d z bx g g)∧Hid (LgOk g (i:Nat))) (fun iv _=>n - (intOf iv).toNat)
  case atStart=>exact⟨0,_,_,_,Nat.zero_le _,rfl,HD0,xhd (new_ok _ m0 m1)⟩
  case round=>
   clear HD0
   obtain⟨i,g,z0,bx0,hi,rfl,HD,HC⟩:=hrel
   by_cases hlt:i < n
   ·obtain⟨rfl,hlb⟩:=HAO.out (by omega)
    have hcell:=HF.out i hlt
    have hwf:=HWf.out i hlt
    have hbb:=HD.out.t.below (B:=w.heap.size) (by simp) (Nat.le_refl _)
    rw [←hbb.cell (p:=⟨lb2,off2+i*4,none⟩) hlb, ←hbb.cell (p:=⟨lb2,off2+i*4+1,none⟩) hlb, ←hbb.cell (p:=⟨lb2,off2+i*4+2,none⟩) hlb, ←hbb.cell (p:=⟨lb2,off2+i*4+3,none⟩) hlb] at hcell
    obtain⟨z1,z2,z3,z4⟩:=hcell
    obtain⟨⟨dk,d1,d2,d3⟩,hdd⟩:∃z,F i=z:=⟨_,rfl⟩
    simp only [hdd] at z1 z2 z3 z4 hwf
    clear hdd hbb
    obtain⟨hw0,hw1,hw2,hw3,hw4⟩:=hwf
    simp only at hw0 hw1 hw2 hw3 hw4
    obtain⟨S,rfl⟩:∃S:Nat,d3=S:=⟨d3.toNat,by omega⟩
    replace hw3:S < 18446744073709551616:=by omega
    clear hw4
    have H1:Hid (DuL C w (wr.alloc (.cells #[.int .u8 dk, .int .i64 d1, .int .i64 d2, .int .u64 (S:Int)] 32)) b d wr.heap.size (.cells #[.int .u8 dk, .int .i64 d1, .int .i64 d2, .int .u64 (S:Int)] 32 (0,0)) g g):=xhd (HD.out.boxed ((Turned.refl [] wr).alloc _) (heap_alloc_new wr (.cells #[.int .u8 dk, .int .i64 d1, .int .i64 d2, .int .u64 (S:Int)] 32)) (Nat.le_refl _))
    have l1:(i:Int) < n:=by omega
    have hi100:(i:Int)≤100:=by omega
    have HLT:Hid (i < n):=xhd hlt
    clear HD hlt
    go_upto_block 2 with (fail)
    clear z1 z2 z3 z4
    generalize wr.alloc (.cells #[.int .u8 dk, .int .i64 d1, .int .i64 d2, .int .u64 (S:Int)] 32)=W at H1 ⊢
    generalize wr.heap.size=z at H1 ⊢
    go_cut [11] from 41 to 193 (fun s11 wx=>s11= .bool true∧∃g',Hid (DuL C w wx b d z (.cells #[.int .u8 dk, .int .i64 d1, .int .i64 d2, .int .u64 (S:Int)] 32 (0,0)) g' g')∧Hid (LgOk g' (((i+1:Nat):Int))))
    case first=>
     by_cases q0:(dk % 4 == 0)=true
     ·as_aux_lemma=>
       have H1D:=xhd (H1.out.later ((Turned.refl [] W).drew))
       have PC:=xhd (dl_charge H1D.out HC.out (by omega) d1 hw1)
       obtain⟨y0,y1,y2,y3,_⟩:=cells4l H1.out.box
       go_wp2_with fail
       clear y0 y1 y2 y3
       obtain⟨y0,y1,y2,y3,_⟩:=cells4l H1D.out.box
       go_region_held3 (fun V=>V.cell? ⟨z,1,none⟩=some (.int .i64 d1))
        (first|exact y1|exact v1|exact u1)
        (first
          |(go_at_call 9
            with_reducible refine PC.out.mono ?_
            rintro e V1 ⟨rfl,h2⟩
            have H2:=xhd h2
            have RC:=xhd (dl_rcharge H2.out HC.out (by omega) d1)
            obtain⟨_,v1,_,_,_⟩:=cells4l H2.out.box
            clear h2)
          |(go_at_call 10
            with_reducible refine RC.out.mono ?_
            rintro e V2 ⟨rfl,h3⟩
            have H3:=xhd h3
            obtain⟨_,u1,_,_,_⟩:=cells4l H3.out.box
            clear h3)
          |fail)
       all_goals
        clear v1 u1 PC RC
        have HC2:Hid (LgOk _ (((i+1:Nat):Int))):=xhd ((HC.out.charge d1).later (by omega))
        go_wp2_with fail
        go_meet
        exact⟨by simp,_,H3,HC2⟩
     ·have q0':(dk % 4 == 0)=false:=by simpa using q0
      clear q0
      by_cases q1:(dk % 4 == 1)=true
      ·as_aux_lemma=>
        have H1D:=xhd (H1.out.later ((Turned.refl [] W).drew))
        have PC:=xhd (dl_charge H1D.out HC.out (by omega) d1 hw1)
        obtain⟨y0,y1,y2,y3,_⟩:=cells4l H1.out.box
        go_wp2_with fail
        clear y0 y1 y2 y3
        obtain⟨y0,y1,y2,y3,_⟩:=cells4l H1D.out.box
        go_region_held3 (fun V=>V.cell? ⟨z,1,none⟩=some (.int .i64 d1))
         (first|exact y1|exact v1|exact u1)
         (first
           |(go_at_call 9
             with_reducible refine PC.out.mono ?_
             rintro e V1 ⟨rfl,h2⟩
             have H2:=xhd h2
             have RC:=xhd (dl_rcharge H2.out HC.out (by omega) d1)
             obtain⟨_,v1,_,_,_⟩:=cells4l H2.out.box
             clear h2)
           |(go_at_call 10
             with_reducible refine RC.out.mono ?_
             rintro e V2 ⟨rfl,h3⟩
             have H3:=xhd h3
             obtain⟨_,u1,_,_,_⟩:=cells4l H3.out.box
             clear h3)
           |fail)
        all_goals
         clear v1 u1 PC RC
         have HC2:Hid (LgOk _ (((i+1:Nat):Int))):=xhd ((HC.out.charge d1).later (by omega))
         go_wp2_with fail
         go_meet
         exact⟨by simp,_,H3,HC2⟩
      ·have q1':(dk % 4 == 1)=false:=by simpa using q1
       clear q1
       by_cases q2:(dk % 4 == 2)=true
       ·as_aux_lemma=>
         obtain⟨y0,y1,y2,y3,_⟩:=cells4l H1.out.box
         have PC:=xhd (dl_settle H1.out HC.out (by omega) S hw3)
         go_wp2_with fail
         with_reducible refine PC.out.mono ?_
         rintro e V1 ⟨rfl,h2⟩
         have H2:=xhd h2
         clear h2 PC
         clear y0 y1 y2 y3
         obtain⟨y0,y1,y2,y3,_⟩:=cells4l H2.out.box
         have RC:=xhd (dl_rsettle H2.out HC.out (by omega) S)
         go_wp2_with fail
         with_reducible refine RC.out.mono ?_
         rintro e V2 ⟨rfl,h3⟩
         have H3:=xhd h3
         clear h3 RC
         clear y0 y1 y2 y3
         have HC2:Hid (LgOk _ (((i+1:Nat):Int))):=xhd ((HC.out.settle S).later (by omega))
         go_wp2_with fail
         go_meet
         exact⟨by simp,_,H3,HC2⟩
       ·have q2':(dk % 4 == 2)=false:=by simpa using q2
        clear q2
        have q3:(dk % 4 == 3)=true:=by
         simp at q0' q1' q2' ⊢
         omega
        as_aux_lemma=>
         have H1D:=xhd (H1.out.later ((Turned.refl [] W).drew))
         have PC:=xhd (dl_weigh H1D.out HC.out (by omega) d1 d2 hw1 hw2)
         obtain⟨y0,y1,y2,y3,_⟩:=cells4l H1.out.box
         go_wp2_with fail
         clear y0 y1 y2 y3
         obtain⟨y0,y1,y2,y3,_⟩:=cells4l H1D.out.box
         go_region_held3 (fun V=>V.cell? ⟨z,1,none⟩=some (.int .i64 d1)∧V.cell? ⟨z,2,none⟩=some (.int .i64 d2))
          (first|exact⟨y1,y2⟩ |exact⟨v1,v2⟩ |exact⟨u1,u2⟩)
          (first
            |(go_at_call 13
              with_reducible refine PC.out.mono ?_
              rintro e V1 ⟨rfl,h2⟩
              have H2:=xhd h2
              have RC:=xhd (dl_rweigh H2.out HC.out (by omega) d1 d2)
              obtain⟨_,v1,v2,_,_⟩:=cells4l H2.out.box
              clear h2)
            |(go_at_call 14
              with_reducible refine RC.out.mono ?_
              rintro e V2 ⟨rfl,h3⟩
              have H3:=xhd h3
              obtain⟨_,u1,u2,_,_⟩:=cells4l H3.out.box
              clear h3)
            |fail)
         all_goals
          clear v1 v2 u1 u2 PC RC
          have HC2:Hid (LgOk _ (((i+1:Nat):Int))):=xhd ((HC.out.weigh d1 d2).later (by omega))
          go_wp2_with fail
          go_meet
          exact⟨by simp,_,H3,HC2⟩
    case rest=>
     clear H1 HC
     obtain⟨rfl,g',H2,HC2⟩:=hcut
     have hlen:=HC2.out.len
     obtain⟨a,cp,hv,hr⟩:=H2.out.view
     have HV:=xhd hv
     have HR:=xhd hr
     have PF:=xhd (rd_floor H2.out HC2.out (by omega))
     have PA:=xhd (rd_active H2.out HC2.out (by omega))
     have PL:=xhd (rd_len H2.out HC2.out (by omega))
     have PM:=xhd (rd_least H2.out HC2.out (by omega) S hw3)
     have PB:=xhd (rd_behind H2.out HC2.out (by omega) d1 S hw1 hw3)
     have RA:=xhd (rd_ractive H2.out HC2.out)
     have RM:=xhd (rd_rleast H2.out HC2.out S)
     have RB:=xhd (rd_rbehind H2.out HC2.out d1 S)
     have PV:=xhd (fun p hp=>rd_vv H2.out HC2.out (by omega) p hp)
     have PH:=xhd (fun p hp=>rd_held H2.out HC2.out (by omega) p hp)
     have PW:=xhd (fun p hp=>rd_weight H2.out HC2.out (by omega) p hp)
     have RI:=xhd (fun p=>rd_ris H2.out p)
     generalize g'.f=qf at HV PF
     generalize g'.least S=qm at PM RM
     generalize g'.behind d1 S=qb at PB RB
     generalize (g'.active:Int)=qa at PA RA
     clear hv hr
     go_wp2_with fail
     obtain⟨c3,c0,b1,b3,ct⟩:=HV.out _ ((Turned.refl [] wc).drew)
     go_region_held3 (fun V=>V.cell? ⟨d,3,none⟩=some (.int .u64 qf)∧V.cell? ⟨d,0,none⟩=some (.slice a g'.l.length cp)∧V.cell? ⟨z,1,none⟩=some (.int .i64 d1)∧V.cell? ⟨z,3,none⟩=some (.int .u64 (S:Int))∧Turned [] wc V)
      (first|exact⟨c3,c0,b1,b3,ct⟩ |exact HV.out _ ct.drew)
      (first
        |(go_at_call 15;with_reducible refine (PF.out _ ct).mono ?_;rintro e w' ⟨rfl,kk⟩;obtain⟨c3,c0,b1,b3,ct⟩:=HV.out _ kk)
        |(go_at_call 16;with_reducible refine (PA.out _ ct).mono ?_;rintro e w' ⟨rfl,kk⟩;obtain⟨c3,c0,b1,b3,ct⟩:=HV.out _ kk)
        |(go_at_call 18;with_reducible refine (PL.out _ ct).mono ?_;rintro e w' ⟨rfl,kk⟩;obtain⟨c3,c0,b1,b3,ct⟩:=HV.out _ kk)
        |(go_at_call 19;with_reducible refine (PM.out _ ct).mono ?_;rintro e w' ⟨rfl,kk⟩;obtain⟨c3,c0,b1,b3,ct⟩:=HV.out _ kk)
        |(go_at_call 21;with_reducible refine (PB.out _ ct).mono ?_;rintro e w' ⟨rfl,kk⟩;obtain⟨c3,c0,b1,b3,ct⟩:=HV.out _ kk)
        |(go_at_call 17;with_reducible refine (RA.out _ ct).mono ?_;rintro e w' ⟨rfl,kk⟩;obtain⟨c3,c0,b1,b3,ct⟩:=HV.out _ kk)
        |(go_at_call 20;with_reducible refine (RM.out _ ct).mono ?_;rintro e w' ⟨rfl,kk⟩;obtain⟨c3,c0,b1,b3,ct⟩:=HV.out _ kk)
        |(go_at_call 22;with_reducible refine (RB.out _ ct).mono ?_;rintro e w' ⟨rfl,kk⟩;obtain⟨c3,c0,b1,b3,ct⟩:=HV.out _ kk)
        |fail)
     clear PF PA PL PM PB RA RM RB b1 b3 c3 c0
     have HK:=xhd ct
     clear ct
     go_wp2_with fail
     go_loopw [12] (fun pv V=>∃p:Int, -1≤p∧p≤(g'.l.length:Int)+1∧pv= .int .i64 p∧Hid (Turned [] wc V)) (fun pv _=>((g'.l.length:Int)+1 - intOf pv).toNat)
     case atStart=>exact⟨-1,by omega,by omega,rfl,HK⟩
     case round=>
      clear HK
      obtain⟨p,hp0,hp1,rfl,HK⟩:=hrel
      have c0:=(HV.out _ HK.out).2.1
      by_cases hpl:p≤(g'.l.length:Int)
      ·have hpj:isJ p:=by unfold isJ;omega
       have RI1:=xhd (RI.out p)
       have PV1:=xhd (PV.out p hpj)
       have PH1:=xhd (PH.out p hpj)
       have PW1:=xhd (PW.out p hpj)
       clear hpj
       cases hip:isP g' p with
       |false=>
        obtain⟨n1,n2,n3⟩:=none_at hip
        rw [hip] at RI1
        rw [n1] at PV1
        rw [n2] at PH1
        rw [n3] at PW1
        clear hip n1 n2 n3
        go_wp2_with fail
        with_reducible refine (RI1.out _ HK.out).mono ?_
        rintro e v1 ⟨rfl,t1⟩
        have T1:=xhd t1
        clear t1 HK RI1 c0
        go_wp2_with fail
        with_reducible refine (PV1.out _ T1.out).mono ?_
        rintro e v2 ⟨rfl,t2⟩
        have T2:=xhd t2
        clear t2 T1 PV1
        go_wp2_with fail
        with_reducible refine (PH1.out _ T2.out).mono ?_
        rintro e v3 ⟨rfl,t3⟩
        have T3:=xhd t3
        clear t3 T2 PH1
        go_wp2_with fail
        with_reducible refine (PW1.out _ T3.out).mono ?_
        rintro e v4 ⟨rfl,t4⟩
        have T4:=xhd t4
        clear t4 T3 PW1
        go_wp2
        go_roundw
        case rel=>exact⟨p+1,by omega,by omega,by go_num,T4⟩
        case measure=>simp [intOf];omega
       |true=>
        obtain⟨j,rfl,hj⟩:=isP_nat hip
        obtain⟨r,rfl,hrow⟩:=HR.out j hj
        have HRW:=xhd hrow
        have i0:(0:Int)≤j:=by omega
        have i1:(j:Int) < g'.l.length:=by omega
        rw [hip] at RI1
        clear hip hrow hj
        generalize vAt g'.l j=qv at HRW PV1
        generalize heldAt g'.l j=qh at HRW PH1
        generalize wtAt g'.l j=qw at HRW PW1
        go_wp2_with fail
        with_reducible refine (RI1.out _ HK.out).mono ?_
        rintro e v1 ⟨rfl,t1⟩
        have T1:=xhd t1
        clear t1 HK RI1 c0
        have c0:=(HV.out _ T1.out).2.1
        obtain⟨r0,r1,r2⟩:=HRW.out _ T1.out
        go_wp2_with fail
        go_quiet (fail)
        have T1:=xhd (T1.out.drewN nq)
        clear c0 r0 r1 r2
        go_wp2_with fail
        with_reducible refine (PV1.out _ T1.out).mono ?_
        rintro e v2 ⟨rfl,t2⟩
        have T2:=xhd t2
        clear t2 T1 PV1
        go_wp2_with fail
        with_reducible refine (PH1.out _ T2.out).mono ?_
        rintro e v3 ⟨rfl,t3⟩
        have T3:=xhd t3
        clear t3 T2 PH1
        go_wp2_with fail
        with_reducible refine (PW1.out _ T3.out).mono ?_
        rintro e v4 ⟨rfl,t4⟩
        have T4:=xhd t4
        clear t4 T3 PW1
        go_wp2
        go_roundw
        case rel=>exact⟨(j:Int)+1,by omega,by omega,by go_num,T4⟩
        case measure=>simp [intOf];omega
      ·have HK2:=xhd (H2.out.later HK.out)
       go_wp2
       go_roundw
       case rel=>exact⟨i+1,_,_,_,by have:=HLT.out;omega,by go_num,HK2,HC2⟩
       case measure=>have:=HLT.out;simp [intOf];omega
   ·obtain rfl:i=n:=by omega
    have HT:=xhd HD.out.t
    go_wp2
    go_ret
    exact⟨rfl,HT.out⟩
end Go.Proofs.YtcgjbllmoglhfaaDoor
