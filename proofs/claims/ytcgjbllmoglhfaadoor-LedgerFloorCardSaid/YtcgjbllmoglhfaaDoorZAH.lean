/-
  LedgerFloor: the walk, given what is said of the program's ledger. (Made by gen_lgfloor.py.)
-/
import Derived.Test.YtcgjbllmoglhfaaDoorZAC
import Derived.Test.YtcgjbllmoglhfaaDoorZAG
import Derived.Deep.CutRange
import Derived.Deep.CutBlock
import Derived.StillTailTactics
import Derived.Laws.Bits64b
import Derived.Test.YtcgjbllmoglhfaaDoorZAl
set_option maxRecDepth 100000
set_option maxHeartbeats 25600000
namespace Go.Proofs.YtcgjbllmoglhfaaDoor
open Go.RowKit
theorem bit_at (S:Nat) {j:Nat} (hj:j < 64) (hS:S < 18446744073709551616):bits .and .u64 ((S:Int) / 2 ^ j) 1=if hasN S (j:Int)=true then 1 else 0:=by
 have e:hasN S (j:Int)=S.testBit j:=by
  unfold hasN okI
  simp
  omega
 have e1:(S:Int) / 2 ^ j=((S / 2 ^ j:Nat):Int):=by
  rw [Int.natCast_ediv,Int.natCast_pow]
  rfl
 have e2:S / 2 ^ j≤S:=Nat.div_le_self _ _
 have e3:=bits_and_u64_nat (S / 2 ^ j) 1 (by omega) (by omega)
 rw [Nat.and_one_is_mod] at e3
 rw [e1,e,Nat.testBit_eq_decide_div_mod_eq]
 refine e3.trans ?_
 by_cases h:S / 2 ^ j % 2=1
 ·simp [h]
 ·have:S / 2 ^ j % 2=0:=by omega
  simp [this]
theorem lgfloor_walk (C:LgSaid) (CN:LgNil C.Good) (ao:Option Addr) (lb off nw cpw:Nat) (E:Nat→Int) (m0 m1:Int) (ao2:Option Addr) (lb2 off2 n cap:Nat) (F:Nat→Dd) (w:World) (hg:C.Good w) (hm0:isJ m0) (hm1:isJ m1)
  (hao:0 < nw→ao=some ⟨lb,off,none⟩∧lb < w.heap.size) (hE:∀i,i < nw→w.cell? ⟨lb,off+i,none⟩=some (.int .i64 (E i))) (hJ:∀i,i < nw→isJ (E i)) (hmw:nw≤maxLen) (hcw:nw≤cpw) (hcm:cpw≤maxLen)
  (hao2:0 < n→ao2=some ⟨lb2,off2,none⟩∧lb2 < w.heap.size)
  (hF:∀i,i < n→w.cell? ⟨lb2,off2+i*4,none⟩=some (.int .u8 (F i).1)∧w.cell? ⟨lb2,off2+i*4+1,none⟩=some (.int .i64 (F i).2.1)∧w.cell? ⟨lb2,off2+i*4+2,none⟩=some (.int .i64 (F i).2.2.1)∧w.cell? ⟨lb2,off2+i*4+3,none⟩=some (.int .u64 (F i).2.2.2))
  (hW:∀i,i < n→wfL (F i)) (hm:n≤maxLen):
  Calls Tryd.prog 4 #[.slice ao nw cpw, .agg #[.int .i64 m0, .int .i64 m1], .slice ao2 n cap] w fun r w'=>r= .returned (.bool true)∧Turned [] w w':=by
 obtain⟨hnp,_⟩:=new_both C hg ao lb off nw cpw E m0 m1 hao hE hJ hmw hcw hcm hm0 hm1
 unfold maxLen at hm hmw hcm
 have HF:=xhd hF
 have HAO:=xhd hao2
 have HWf:=xhd hW
 have HG:=xhd hg
 have AW:=xhd (fun V (t:Turned [] w V)=>awake18 C V (C.good hg t))
 have HNP:=xhd hnp
 have HB0:=xhd (heap_alloc_new w (.cells #[.int .i64 m0, .int .i64 m1] 23))
 have HT0:=xhd ((Turned.refl [] w).alloc (.cells #[.int .i64 m0, .int .i64 m1] 23))
 clear hao hao2 hE hF hW hm0 hm1 hJ hg hnp hcw hcm
 by_cases h12:12 < nw
 ·have h12z:(12:Int) < (nw:Int):=by omega
  go_enter Tryd.func4,Tryd.ntmps4
  go_wp2_with fail
  with_reducible refine (AW.out _ HT0.out).mono ?_
  rintro e w0 ⟨rfl,t0⟩
  have T0:=xhd (HT0.out.also18 t0)
  clear t0
  go_wp2
  go_ret
  exact⟨rfl,T0.out⟩
 have h12z:¬(12:Int) < (nw:Int):=by omega
 by_cases h60:100 < n
 ·have h60z:(100:Int) < (n:Int):=by omega
  go_enter Tryd.func4,Tryd.ntmps4
  go_wp2_with fail
  with_reducible refine (AW.out _ HT0.out).mono ?_
  rintro e w0 ⟨rfl,t0⟩
  have T0:=xhd (HT0.out.also18 t0)
  clear t0
  go_wp2
  go_ret
  exact⟨rfl,T0.out⟩
 ·have h60z:¬(100:Int) < (n:Int):=by omega
  go_enter Tryd.func4,Tryd.ntmps4
  go_wp2_with fail
  with_reducible refine (AW.out _ HT0.out).mono ?_
  rintro e w0 ⟨rfl,t0⟩
  have T0:=xhd (HT0.out.also18 t0)
  have B0:=xhd (t0.same HB0.out (by simp))
  clear t0 AW HB0 HT0
  generalize w.heap.size=zb at B0 ⊢
  obtain⟨x0,x1⟩:=cells2l B0.out
  go_wp2_with fail
  with_reducible refine (HNP.out _ T0.out).mono ?_
  rintro e V1 ⟨b,rfl,a1⟩
  have HD0:Hid (LgBx C w V1 b zb _ _):=xhd (LgBx.start HG.out T0.out B0.out a1)
  clear x0 x1 a1 T0 B0 HNP
  go_wp2_with fail
  go_loopw [31] (fun iv V=>∃(i:Nat) (g:Lg) (z:Nat) (bx:Obj),i≤n∧iv= .int .i64 i∧Hid (LgBx C w V b z bx g)∧Hid (LgOk g (i:Nat)∧AtFloor g)) (fun iv _=>n - (intOf iv).toNat)
  case atStart=>exact⟨0,_,_,_,Nat.zero_le _,rfl,HD0,xhd ⟨new_ok _ m0 m1,floor_new _ m0 m1⟩⟩
  case round=>
   clear HD0
   obtain⟨i,g,z0,bx0,hi,rfl,HD,HC⟩:=hrel
   by_cases hlt:i < n
   ·obtain⟨rfl,hlb⟩:=HAO.out (by omega)
    have hcell:=HF.out i hlt
    have hwf:=HWf.out i hlt
    have hbb:=HD.out.t.below (B:=w.heap.size) (by simp) (Nat.le_refl _)
    rw [←hbb.cell (p:=⟨lb2,off2+i*4,none⟩) hlb, ←hbb.cell (p:=⟨lb2,off2+i*4+1,none⟩) hlb, ←hbb.cell (p:=⟨lb2,off2+i*4+2,none⟩) hlb, ←hbb.cell (p:=⟨lb2,off2+i*4+3,none⟩) hlb] at hcell
    obtain⟨z1,z2,z3,z4⟩:=hcell
    obtain⟨⟨dk,d1,d2,d3⟩,hdd⟩:∃z,F i=z:=⟨_,rfl⟩
    simp only [hdd] at z1 z2 z3 z4 hwf
    clear hdd hbb
    obtain⟨hw0,hw1,hw2,hw3,hw4⟩:=hwf
    simp only at hw0 hw1 hw2 hw3 hw4
    obtain⟨S,rfl⟩:∃S:Nat,d3=S:=⟨d3.toNat,by omega⟩
    replace hw3:S < 18446744073709551616:=by omega
    clear hw4
    have H1:Hid (LgBx C w (wr.alloc (.cells #[.int .u8 dk, .int .i64 d1, .int .i64 d2, .int .u64 (S:Int)] 32)) b wr.heap.size (.cells #[.int .u8 dk, .int .i64 d1, .int .i64 d2, .int .u64 (S:Int)] 32 (0,0)) g):=xhd (HD.out.boxed ((Turned.refl [] wr).alloc _) (heap_alloc_new wr (.cells #[.int .u8 dk, .int .i64 d1, .int .i64 d2, .int .u64 (S:Int)] 32)) (Nat.le_refl _))
    have l1:(i:Int) < n:=by omega
    have hi100:(i:Int)≤100:=by omega
    have HLT:Hid (i < n):=xhd hlt
    have PF0:=xhd (rb_floor H1.out.on HC.out.1 (by omega))
    clear HD hlt
    go_upto_block 2 with (with_reducible refine (PF0.out _ (Turned.refl [] _)).mono ?_;rintro e W ⟨rfl,tw⟩;obtain⟨y0,y1,y2,y3,_⟩:=cells4l (H1.out.later tw).box)
    have H1:=xhd (H1.out.later tw)
    clear tw PF0 z1 z2 z3 z4 y0 y1 y2 y3
    generalize wr.heap.size=z at H1 ⊢
    go_cut [11] from 37 to 84 (fun s11 wx=>∃g',Hid (LgBx C w wx b z (.cells #[.int .u8 dk, .int .i64 d1, .int .i64 d2, .int .u64 (S:Int)] 32 (0,0)) g')∧Hid (LgOk g' (((i+1:Nat):Int))∧AtFloor g'∧g.f≤g'.f))
    case first=>
     by_cases q0:(dk % 4 == 0)=true
     ·as_aux_lemma=>
       obtain⟨y0,y1,y2,y3,_⟩:=cells4l H1.out.box
       have PC:=xhd (lb_charge H1.out HC.out.1 (by omega) d1 hw1)
       have HC2:Hid (LgOk _ (((i+1:Nat):Int))∧AtFloor _∧g.f≤_):=xhd ⟨(HC.out.1.charge d1).later (by omega),(HC.out.2.charge HC.out.1 d1).1,Int.le_of_eq (HC.out.2.charge HC.out.1 d1).2.symm⟩
       go_wp2_with fail
       with_reducible refine PC.out.mono ?_
       rintro e V1 ⟨rfl,h2⟩
       have H2:=xhd h2
       clear h2 PC
       clear y0 y1 y2 y3
       go_wp2
       go_meet
       exact⟨_,H2,HC2⟩
     ·have q0':(dk % 4 == 0)=false:=by simpa using q0
      clear q0
      by_cases q1:(dk % 4 == 1)=true
      ·as_aux_lemma=>
        obtain⟨y0,y1,y2,y3,_⟩:=cells4l H1.out.box
        have PC:=xhd (lb_charge H1.out HC.out.1 (by omega) d1 hw1)
        have HC2:Hid (LgOk _ (((i+1:Nat):Int))∧AtFloor _∧g.f≤_):=xhd ⟨(HC.out.1.charge d1).later (by omega),(HC.out.2.charge HC.out.1 d1).1,Int.le_of_eq (HC.out.2.charge HC.out.1 d1).2.symm⟩
        go_wp2_with fail
        with_reducible refine PC.out.mono ?_
        rintro e V1 ⟨rfl,h2⟩
        have H2:=xhd h2
        clear h2 PC
        clear y0 y1 y2 y3
        go_wp2
        go_meet
        exact⟨_,H2,HC2⟩
      ·have q1':(dk % 4 == 1)=false:=by simpa using q1
       clear q1
       by_cases q2:(dk % 4 == 2)=true
       ·as_aux_lemma=>
         obtain⟨y0,y1,y2,y3,_⟩:=cells4l H1.out.box
         have PC:=xhd (lb_settle H1.out HC.out.1 (by omega) S hw3)
         have HC2:Hid (LgOk (g.settle S) (((i+1:Nat):Int))∧AtFloor (g.settle S)∧g.f≤(g.settle S).f):=xhd ⟨(HC.out.1.settle S).later (by omega),HC.out.2.settle HC.out.1 S,floor_settle g S⟩
         have HSF:=xhd (fun (j:Nat) (x:Pty) (hx:(g.settle S).l[j]?=some x) hs=>settle_floor HC.out.2 HC.out.1 hx hs)
         go_wp2_with fail
         with_reducible refine PC.out.mono ?_
         rintro e V1 ⟨rfl,h2⟩
         have H2:=xhd h2
         clear h2 PC
         clear y0 y1 y2 y3
         generalize g.settle S=g2 at H2 HC2 HSF ⊢
         have hlen:=HC2.out.1.len
         have PL:=xhd (rb_len H2.out.on HC2.out.1 (by omega))
         have PV:=xhd (fun p hp=>rb_vv H2.out.on HC2.out.1 (by omega) p hp)
         have PF:=xhd (rb_floor H2.out.on HC2.out.1 (by omega))
         go_wp2_with fail
         with_reducible refine (PL.out _ (Turned.refl [] V1)).mono ?_
         rintro e v0 ⟨rfl,t0⟩
         have HK:=xhd t0
         clear t0 PL
         go_wp2_with fail
         go_loopw [55] (fun pv V=>∃j:Nat,j≤g2.l.length∧pv= .int .i64 j∧Hid (Turned [] V1 V)) (fun pv _=>g2.l.length - (intOf pv).toNat)
         case atStart=>exact⟨0,Nat.zero_le _,rfl,HK⟩
         case round=>
          clear HK
          obtain⟨j,hj,rfl,HK⟩:=hrel
          by_cases hjl:j < g2.l.length
          ·have HJL:=xhd hjl
           obtain⟨y0,y1,y2,y3,_⟩:=cells4l (H2.out.later HK.out).box
           have hx:g2.l[j]?=some g2.l[j]:=List.getElem?_eq_getElem hjl
           have PV1:=xhd (PV.out j (by unfold isJ;omega))
           have hb:=bit_at S (j:=j) (by omega) hw3
           have i0:(0:Int)≤j:=by omega
           have i1:(j:Int) < g2.l.length:=by omega
           have hv:Hid (hasN S (j:Int)=true→g2.f≤vAt g2.l j):=xhd fun hs=>by
            have h1:=HSF.out j _ hx hs
            rw [vAt_nat,hx]
            exact h1
           cases hs:hasN S (j:Int) with
           |false=>
            rw [hs,if_neg (by decide)] at hb
            clear hx hs
            go_wp2
            go_roundw
            case rel=>exact⟨j+1,HJL.out,by go_num,HK⟩
            case measure=>have:=HJL.out;simp [intOf];omega
           |true=>
            have hv2:=hv.out hs
            rw [hs,if_pos rfl] at hb
            clear hx hs
            generalize vAt g2.l j=qv at hv2 PV1
            go_wp2_with fail
            with_reducible refine (PV1.out _ HK.out).mono ?_
            rintro e v1 ⟨rfl,t1⟩
            have T1:=xhd t1
            clear t1 HK PV1 y0 y1 y2 y3
            go_wp2_with fail
            with_reducible refine (PF.out _ T1.out).mono ?_
            rintro e v2 ⟨rfl,t2⟩
            have T2:=xhd t2
            clear t2 T1
            go_wp2
            go_roundw
            case rel=>exact⟨j+1,HJL.out,by go_num,T2⟩
            case measure=>have:=HJL.out;simp [intOf];omega
          ·go_wp2
           go_meet
           exact⟨_,H2.out.later HK.out |> xhd,HC2⟩
       ·have q2':(dk % 4 == 2)=false:=by simpa using q2
        clear q2
        have q3:(dk % 4 == 3)=true:=by
         simp at q0' q1' q2' ⊢
         omega
        as_aux_lemma=>
         obtain⟨y0,y1,y2,y3,_⟩:=cells4l H1.out.box
         have PC:=xhd (lb_weigh H1.out HC.out.1 (by omega) d1 d2 hw1 hw2)
         have HC2:Hid (LgOk _ (((i+1:Nat):Int))∧AtFloor _∧g.f≤_):=xhd ⟨(HC.out.1.weigh d1 d2).later (by omega),(HC.out.2.weigh HC.out.1 d1 d2).1,Int.le_of_eq (HC.out.2.weigh HC.out.1 d1 d2).2.symm⟩
         go_wp2_with fail
         with_reducible refine PC.out.mono ?_
         rintro e V1 ⟨rfl,h2⟩
         have H2:=xhd h2
         clear h2 PC
         clear y0 y1 y2 y3
         go_wp2
         go_meet
         exact⟨_,H2,HC2⟩
    case rest=>
     clear H1 HC
     obtain⟨g',H2,HC2⟩:=hcut
     have PF:=xhd (rb_floor H2.out.on HC2.out.1 (by omega))
     have hle:=HC2.out.2.2
     go_wp2_with fail
     with_reducible refine (PF.out _ (Turned.refl [] _)).mono ?_
     rintro e W2 ⟨rfl,tw⟩
     have H3:=xhd (H2.out.later tw)
     clear tw PF
     go_wp2
     go_roundw
     case rel=>exact⟨i+1,g',_,_,by have:=HLT.out;omega,by go_num,H3,xhd ⟨HC2.out.1,HC2.out.2.1⟩⟩
     case measure=>have:=HLT.out;simp [intOf];omega
   ·obtain rfl:i=n:=by omega
    have HT:=xhd HD.out.t
    have HGD:=xhd (fun V (t:Turned [] w V)=>C.good HG.out t)
    go_wp2_with fail
    with_reducible refine (CN.settle _ (HGD.out _ HT.out)).mono ?_
    rintro e n0 ⟨rfl,tn⟩
    have HT0:=xhd (HT.out.also18 tn)
    clear tn HT
    go_wp2_with fail
    with_reducible refine (CN.charge _ (HGD.out _ HT0.out)).mono ?_
    rintro e n1 ⟨rfl,tn⟩
    have HT1:=xhd (HT0.out.also18 tn)
    clear tn HT0
    go_wp2_with fail
    with_reducible refine (CN.weigh _ (HGD.out _ HT1.out)).mono ?_
    rintro e n2 ⟨rfl,tn⟩
    have HT2:=xhd (HT1.out.also18 tn)
    clear tn HT1
    go_wp2_with fail
    with_reducible refine (CN.least _ (HGD.out _ HT2.out)).mono ?_
    rintro e n3 ⟨rfl,tn⟩
    have HT3:=xhd (HT2.out.also18 tn)
    clear tn HT2
    go_wp2_with fail
    with_reducible refine (CN.vv _ (HGD.out _ HT3.out)).mono ?_
    rintro e n4 ⟨rfl,tn⟩
    have HT4:=xhd (HT3.out.also18 tn)
    clear tn HT3
    go_wp2_with fail
    with_reducible refine (CN.held _ (HGD.out _ HT4.out)).mono ?_
    rintro e n5 ⟨rfl,tn⟩
    have HT5:=xhd (HT4.out.also18 tn)
    clear tn HT4
    go_wp2_with fail
    with_reducible refine (CN.weight _ (HGD.out _ HT5.out)).mono ?_
    rintro e n6 ⟨rfl,tn⟩
    have HT6:=xhd (HT5.out.also18 tn)
    clear tn HT5
    go_wp2_with fail
    with_reducible refine (CN.floor _ (HGD.out _ HT6.out)).mono ?_
    rintro e n7 ⟨rfl,tn⟩
    have HT7:=xhd (HT6.out.also18 tn)
    clear tn HT6
    go_wp2_with fail
    with_reducible refine (CN.active _ (HGD.out _ HT7.out)).mono ?_
    rintro e n8 ⟨rfl,tn⟩
    have HT8:=xhd (HT7.out.also18 tn)
    clear tn HT7
    go_wp2_with fail
    with_reducible refine (CN.len _ (HGD.out _ HT8.out)).mono ?_
    rintro e n9 ⟨rfl,tn⟩
    have HT9:=xhd (HT8.out.also18 tn)
    clear tn HT8
    go_wp2_with fail
    with_reducible refine (CN.behind _ (HGD.out _ HT9.out)).mono ?_
    rintro e n10 ⟨rfl,tn⟩
    have HT10:=xhd (HT9.out.also18 tn)
    clear tn HT9
    go_wp2
    go_ret
    exact⟨rfl,HT10.out⟩
end Go.Proofs.YtcgjbllmoglhfaaDoor
