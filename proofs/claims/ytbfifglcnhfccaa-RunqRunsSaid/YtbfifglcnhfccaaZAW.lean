/-
  RunqRuns: the walk, given what is said of the program's queues. (Made by gen_rqruns.py.)
-/
import Derived.Test.YtbfifglcnhfccaaZAV
import Derived.Test.YtbfifglcnhfccaaZAH
import Derived.Test.YtbfifglcnhfccaaZAG
import Derived.Test.YtbfifglcnhfccaaZAl
set_option maxRecDepth 100000
set_option maxHeartbeats 25600000
namespace Go.Proofs.Ytbfifglcnhfccaa
open Go.RowKit
theorem rqruns_walk (S:RqSaid) (gr:Int) (ao:Option Addr) (lb off n cap:Nat) (E:Nat→Dq) (w:World) (hgr:isI gr) (hao:0 < n→ao=some ⟨lb,off,none⟩∧lb < w.heap.size)
  (hE:∀i,i < n→w.cell? ⟨lb,off+i*4,none⟩=some (.int .u8 (E i).1)∧w.cell? ⟨lb,off+i*4+1,none⟩=some (.int .i64 (E i).2.1)∧w.cell? ⟨lb,off+i*4+2,none⟩=some (.int .u64 (E i).2.2.1)∧w.cell? ⟨lb,off+i*4+3,none⟩=some (.int .i64 (E i).2.2.2))
  (hW:∀i,i < n→wfD (E i)) (hm:n≤maxLen):
  Calls Try.prog 3 #[.int .i64 gr, .slice ao n cap] w fun r w'=>r= .returned (.bool true)∧Turned [] w w':=by
 unfold maxLen at hm
 have HE:=xhd hE
 have HAO:=xhd hao
 have HWf:=xhd hW
 have AW:=xhd (awake16 S w)
 have HNP:=xhd (fun V=>S.new gr V hgr)
 have HND:=xhd (fun V=>rnew_any gr V)
 clear hE hao hW hgr
 by_cases h80:80 < n
 ·have h80z:(80:Int) < (n:Int):=by omega
  go_enter Try.func3,Try.ntmps3
  go_wp2_with fail
  with_reducible refine AW.out.mono ?_
  rintro e w0 ⟨rfl,t0⟩
  have T0:=xhd t0
  clear t0
  go_wp2
  go_ret
  exact⟨rfl,T0.out⟩
 ·have h80z:¬(80:Int) < (n:Int):=by omega
  go_enter Try.func3,Try.ntmps3
  go_wp2_with fail
  with_reducible refine AW.out.mono ?_
  rintro e w0 ⟨rfl,t0⟩
  have T0:=xhd t0
  clear t0 AW
  go_wp2_with fail
  with_reducible refine (HNP.out _).mono ?_
  rintro e w1 ⟨b,X0,rfl,a1,t1,n1⟩
  have A1:=xhd a1
  have T1:=xhd (T0.out.trans t1 (Newer.refl _ _))
  have N1:=xhd n1
  clear a1 t1 n1
  go_wp2_with fail
  with_reducible refine (HND.out _).mono ?_
  rintro e w2 ⟨rfl,r2,b2⟩
  have hD0:DuoR S w w2 b X0 w1.heap.size [w1.heap.size] (Rq.new gr) (Rq.new gr):=by
   have t2:=turned_below (X:=[]) b2
   refine⟨S.keep0 A1.out t2,r2,fun k hk hy=>?_,fun k hk=>?_,fun k hk=>?_,T1.out.trans t2 (Newer.refl _ _)⟩
   ·have:=S.lt A1.out k hk
    have:=List.mem_singleton.1 hy
    omega
   ·have:=N1.out k hk
    have:=T0.out.size
    omega
   ·have:=List.mem_singleton.1 hk
    have:=T1.out.size
    omega
  have HD0:=xhd hD0
  clear r2 b2 hD0 A1 T1 N1 T0 HNP HND
  generalize w1.heap.size=d at HD0 ⊢
  go_wp2_with fail
  go_loopw [38] (fun iv V=>∃(i:Nat) (X Y:List Nat) (q:Rq),i≤n∧iv= .int .i64 i∧Hid (DuoR S w V b X d Y q q)∧Hid (QOk q (8+i))) (fun iv _=>n - (intOf iv).toNat)
  case atStart=>exact⟨0,X0,_,_,Nat.zero_le _,rfl,HD0,xhd (by simpa using QOk.new gr)⟩
  case round=>
   clear HD0
   obtain⟨i,X,Y,q,hi,rfl,HD,HQ⟩:=hrel
   by_cases hlt:i < n
   ·obtain⟨rfl,hlb⟩:=HAO.out (by omega)
    have hcell:=HE.out i hlt
    have hwf:=HWf.out i hlt
    have hbb:=HD.out.t.below (B:=w.heap.size) (by simp) (Nat.le_refl _)
    rw [←hbb.cell (p:=⟨lb,off+i*4,none⟩) hlb, ←hbb.cell (p:=⟨lb,off+i*4+1,none⟩) hlb, ←hbb.cell (p:=⟨lb,off+i*4+2,none⟩) hlb, ←hbb.cell (p:=⟨lb,off+i*4+3,none⟩) hlb] at hcell
    obtain⟨z0,z1,z2,z3⟩:=hcell
    obtain⟨⟨dk,d1,d2,d3⟩,hdd⟩:∃z,E i=z:=⟨_,rfl⟩
    simp only [hdd] at z0 z1 z2 z3 hwf
    clear hdd hbb
    obtain⟨hw0,hw1,hw2,hw3⟩:=hwf
    simp only at hw0 hw1 hw2 hw3
    obtain⟨W,hW⟩:∃W,wr.alloc (.cells #[.int .u8 dk, .int .i64 d1, .int .u64 d2, .int .i64 d3] 30)=W:=⟨_,rfl⟩
    have td:Turned [] wr W:=hW ▸ (Turned.refl [] wr).alloc _
    have hdk:W.heap[wr.heap.size]?=some (.cells #[.int .u8 dk, .int .i64 d1, .int .u64 d2, .int .i64 d3] 30 (0,0)):=hW ▸ heap_alloc_new wr _
    have H1:=xhd (HD.out.later td)
    have HDK:=xhd hdk
    have HNZ:Hid (wr.heap.size ∉ X∧wr.heap.size ∉ Y):=xhd ⟨fun hx=>by have:=S.lt HD.out.at_ _ hx;omega,fun hx=>by have:=LAt.lt HD.out.ref _ hx;omega⟩
    have HWa:=xhd hW
    have l1:(i:Int) < n:=by omega
    have hc5:(8:Int)+i≤1000:=by omega
    have HLT:Hid (i < n):=xhd hlt
    have HSM:=xhd (fun V X Y q2 (hd:DuoR S w V b X d Y q2 q2) (hq:QOk q2 (8+i+1))=>same16_any S hd.at_ hd.ref hq (by omega) d1 hw1)
    clear td hdk HD hW hlt
    by_cases q0:(dk % 10 == 0)=true
    ·as_aux_lemma=>
      have PC:=xhd (S.add d1 d2 d3 H1.out.at_ HQ.out (by omega) hw1 hw3 hw2)
      obtain⟨y0,y1,y2,y3⟩:=cells4q HDK.out
      go_wp2_with fail
      rw [HWa.out]
      go_wp2_with fail
      with_reducible refine PC.out.mono ?_
      rintro e V1 ⟨rfl,X1,a1,t1,n1⟩
      have D1:=xhd (H1.out.prog a1 t1 n1)
      have K1:=xhd (t1.same HDK.out HNZ.out.1)
      have RC:=xhd (radd_any D1.out.ref HQ.out.f d1 d2 d3)
      clear a1 t1 n1 y0 y1 y2 y3 PC
      obtain⟨y0,y1,y2,y3⟩:=cells4q K1.out
      go_wp2_with fail
      with_reducible refine RC.out.mono ?_
      rintro e V2 ⟨rfl,Y1,r2,t2,n2⟩
      have D2:=xhd (D1.out.doc r2 t2 n2)
      have K2:=xhd (t2.same K1.out HNZ.out.2)
      have Q2:Hid (QOk (q.add d1 d2 d3) (8+i+1)):=xhd ((HQ.out.add d1 hw2 d3).later (by omega))
      clear r2 t2 n2 y0 y1 y2 y3 RC
      obtain⟨y0,y1,y2,y3⟩:=cells4q K2.out
      go_wp2_with fail
      with_reducible refine (HSM.out _ _ _ _ D2.out Q2.out).mono ?_
      rintro e V3 ⟨rfl,t3⟩
      have D3:=xhd (D2.out.later t3)
      have Q3:Hid (QOk (q.add d1 d2 d3) (8+((i+1:Nat):Int))):=xhd (by have:=Q2.out;rw [show (8:Int)+((i+1:Nat):Int)=8+i+1 by omega];exact this)
      clear t3 y0 y1 y2 y3
      go_wp2
      go_roundw
      case rel=>exact⟨i+1,_,_,_,by have:=HLT.out;omega,by go_num,D3,Q3⟩
      case measure=>have:=HLT.out;simp [intOf];omega
    ·have q0':(dk % 10 == 0)=false:=by simpa using q0
     clear q0
     by_cases q1:(dk % 10 == 1)=true
     ·as_aux_lemma=>
       have PC:=xhd (S.remove d1 H1.out.at_ HQ.out (by omega) hw1)
       obtain⟨y0,y1,y2,y3⟩:=cells4q HDK.out
       go_wp2_with fail
       rw [HWa.out]
       go_wp2_with fail
       with_reducible refine PC.out.mono ?_
       rintro e V1 ⟨rfl,X1,a1,t1,n1⟩
       have D1:=xhd (H1.out.prog a1 t1 n1)
       have K1:=xhd (t1.same HDK.out HNZ.out.1)
       have RC:=xhd (rremove_any D1.out.ref HQ.out.uniq (Nat.le_trans HQ.out.len (by decide)) d1)
       clear a1 t1 n1 y0 y1 y2 y3 PC
       obtain⟨y0,y1,y2,y3⟩:=cells4q K1.out
       go_wp2_with fail
       with_reducible refine RC.out.mono ?_
       rintro e V2 ⟨rfl,Y1,r2,t2,n2⟩
       have D2:=xhd (D1.out.doc r2 t2 n2)
       have K2:=xhd (t2.same K1.out HNZ.out.2)
       have Q2:Hid (QOk (q.remove d1) (8+i+1)):=xhd ((HQ.out.remove d1).later (by omega))
       clear r2 t2 n2 y0 y1 y2 y3 RC
       obtain⟨y0,y1,y2,y3⟩:=cells4q K2.out
       go_wp2_with fail
       with_reducible refine (HSM.out _ _ _ _ D2.out Q2.out).mono ?_
       rintro e V3 ⟨rfl,t3⟩
       have D3:=xhd (D2.out.later t3)
       have Q3:Hid (QOk (q.remove d1) (8+((i+1:Nat):Int))):=xhd (by have:=Q2.out;rw [show (8:Int)+((i+1:Nat):Int)=8+i+1 by omega];exact this)
       clear t3 y0 y1 y2 y3
       go_wp2
       go_roundw
       case rel=>exact⟨i+1,_,_,_,by have:=HLT.out;omega,by go_num,D3,Q3⟩
       case measure=>have:=HLT.out;simp [intOf];omega
     ·have q1':(dk % 10 == 1)=false:=by simpa using q1
      clear q1
      by_cases q2:(dk % 10 == 2)=true
      ·as_aux_lemma=>
        have PC:=xhd (S.pick H1.out.at_ HQ.out (by omega))
        obtain⟨y0,y1,y2,y3⟩:=cells4q HDK.out
        go_wp2_with fail
        rw [HWa.out]
        go_wp2_with fail
        with_reducible refine PC.out.mono ?_
        rintro e V1 ⟨rfl,X1,a1,t1,n1⟩
        have D1:=xhd (H1.out.prog a1 t1 n1)
        have K1:=xhd (t1.same HDK.out HNZ.out.1)
        have RC:=xhd (rpick_any D1.out.ref HQ.out.uniq (Nat.le_trans HQ.out.len (by decide)))
        clear a1 t1 n1 y0 y1 y2 y3 PC
        obtain⟨y0,y1,y2,y3⟩:=cells4q K1.out
        go_wp2_with fail
        with_reducible refine RC.out.mono ?_
        rintro e V2 ⟨rfl,r2,t2⟩
        have n2:Newer Y V1.heap.size Y:=Newer.refl _ _
        have D2:=xhd (D1.out.doc r2 t2 n2)
        have K2:=xhd (t2.same K1.out HNZ.out.2)
        have Q2:Hid (QOk q.pick (8+i+1)):=xhd (HQ.out.pick.later (by omega))
        clear r2 t2 n2 y0 y1 y2 y3 RC
        obtain⟨y0,y1,y2,y3⟩:=cells4q K2.out
        go_wp2_with fail
        with_reducible refine (HSM.out _ _ _ _ D2.out Q2.out).mono ?_
        rintro e V3 ⟨rfl,t3⟩
        have D3:=xhd (D2.out.later t3)
        have Q3:Hid (QOk q.pick (8+((i+1:Nat):Int))):=xhd (by have:=Q2.out;rw [show (8:Int)+((i+1:Nat):Int)=8+i+1 by omega];exact this)
        clear t3 y0 y1 y2 y3
        go_wp2
        go_roundw
        case rel=>exact⟨i+1,_,_,_,by have:=HLT.out;omega,by go_num,D3,Q3⟩
        case measure=>have:=HLT.out;simp [intOf];omega
      ·have q2':(dk % 10 == 2)=false:=by simpa using q2
       clear q2
       by_cases q3:(dk % 10 == 3)=true
       ·as_aux_lemma=>
         have PC:=xhd (S.back H1.out.at_ HQ.out (by omega))
         obtain⟨y0,y1,y2,y3⟩:=cells4q HDK.out
         go_wp2_with fail
         rw [HWa.out]
         go_wp2_with fail
         with_reducible refine PC.out.mono ?_
         rintro e V1 ⟨rfl,X1,a1,t1,n1⟩
         have D1:=xhd (H1.out.prog a1 t1 n1)
         have K1:=xhd (t1.same HDK.out HNZ.out.1)
         have RC:=xhd (rback_any D1.out.ref)
         clear a1 t1 n1 y0 y1 y2 y3 PC
         obtain⟨y0,y1,y2,y3⟩:=cells4q K1.out
         go_wp2_with fail
         with_reducible refine RC.out.mono ?_
         rintro e V2 ⟨rfl,r2,t2⟩
         have n2:Newer Y V1.heap.size Y:=Newer.refl _ _
         have D2:=xhd (D1.out.doc r2 t2 n2)
         have K2:=xhd (t2.same K1.out HNZ.out.2)
         have Q2:Hid (QOk q.back (8+i+1)):=xhd (HQ.out.back.later (by omega))
         clear r2 t2 n2 y0 y1 y2 y3 RC
         obtain⟨y0,y1,y2,y3⟩:=cells4q K2.out
         go_wp2_with fail
         with_reducible refine (HSM.out _ _ _ _ D2.out Q2.out).mono ?_
         rintro e V3 ⟨rfl,t3⟩
         have D3:=xhd (D2.out.later t3)
         have Q3:Hid (QOk q.back (8+((i+1:Nat):Int))):=xhd (by have:=Q2.out;rw [show (8:Int)+((i+1:Nat):Int)=8+i+1 by omega];exact this)
         clear t3 y0 y1 y2 y3
         go_wp2
         go_roundw
         case rel=>exact⟨i+1,_,_,_,by have:=HLT.out;omega,by go_num,D3,Q3⟩
         case measure=>have:=HLT.out;simp [intOf];omega
       ·have q3':(dk % 10 == 3)=false:=by simpa using q3
        clear q3
        by_cases q4:(dk % 10 == 4)=true
        ·as_aux_lemma=>
          have PC:=xhd (S.tick H1.out.at_ HQ.out (by omega))
          obtain⟨y0,y1,y2,y3⟩:=cells4q HDK.out
          go_wp2_with fail
          rw [HWa.out]
          go_wp2_with fail
          with_reducible refine PC.out.mono ?_
          rintro e V1 ⟨rfl,X1,a1,t1,n1⟩
          have D1:=xhd (H1.out.prog a1 t1 n1)
          have K1:=xhd (t1.same HDK.out HNZ.out.1)
          have RC:=xhd (rtick_any D1.out.ref HQ.out.uniq HQ.out.cur HQ.out.v HQ.out.ran.1 (by have:=HQ.out.ran.2;omega))
          clear a1 t1 n1 y0 y1 y2 y3 PC
          obtain⟨y0,y1,y2,y3⟩:=cells4q K1.out
          go_wp2_with fail
          with_reducible refine RC.out.mono ?_
          rintro e V2 ⟨rfl,r2,t2⟩
          have n2:Newer Y V1.heap.size Y:=Newer.refl _ _
          have D2:=xhd (D1.out.doc r2 t2 n2)
          have K2:=xhd (t2.same K1.out HNZ.out.2)
          have Q2:Hid (QOk q.tick (8+i+1)):=xhd (HQ.out.tick)
          clear r2 t2 n2 y0 y1 y2 y3 RC
          obtain⟨y0,y1,y2,y3⟩:=cells4q K2.out
          go_wp2_with fail
          with_reducible refine (HSM.out _ _ _ _ D2.out Q2.out).mono ?_
          rintro e V3 ⟨rfl,t3⟩
          have D3:=xhd (D2.out.later t3)
          have Q3:Hid (QOk q.tick (8+((i+1:Nat):Int))):=xhd (by have:=Q2.out;rw [show (8:Int)+((i+1:Nat):Int)=8+i+1 by omega];exact this)
          clear t3 y0 y1 y2 y3
          go_wp2
          go_roundw
          case rel=>exact⟨i+1,_,_,_,by have:=HLT.out;omega,by go_num,D3,Q3⟩
          case measure=>have:=HLT.out;simp [intOf];omega
        ·have q4':(dk % 10 == 4)=false:=by simpa using q4
         clear q4
         by_cases q5:(dk % 10 == 5)=true
         ·as_aux_lemma=>
           have H1D:=xhd (H1.out.later ((Turned.refl [] W).drew))
           have PC:=xhd (S.weigh d1 d3 H1D.out.at_ HQ.out (by omega) hw1 hw3)
           have HDKD:=xhd (show W.drew.heap[wr.heap.size]?=_ from HDK.out)
           obtain⟨y0,y1,y2,y3⟩:=cells4q HDK.out
           go_wp2_with fail
           rw [HWa.out]
           go_wp2_with fail
           clear y0 y1 y2 y3
           obtain⟨y0,y1,y2,y3⟩:=cells4q HDKD.out
           go_region_held3 (fun V=>V.cell? ⟨wr.heap.size,1,none⟩=some (.int .i64 d1)∧V.cell? ⟨wr.heap.size,3,none⟩=some (.int .i64 d3))
            (first|exact⟨y1,y3⟩ |exact⟨v1,v3⟩ |exact⟨u1,u3⟩)
            (first
              |(go_at_call 21
                with_reducible refine PC.out.mono ?_
                rintro e V1 ⟨rfl,X1,a1,t1,n1⟩
                have D1:=xhd (H1D.out.prog a1 t1 n1)
                have K1:=xhd (t1.same HDKD.out HNZ.out.1)
                have RC:=xhd (rweigh_any D1.out.ref HQ.out.uniq HQ.out.f d1 d3)
                obtain⟨_,v1,_,v3⟩:=cells4q K1.out
                clear a1 t1 n1)
              |(go_at_call 22
                with_reducible refine RC.out.mono ?_
                rintro e V2 ⟨rfl,r2,t2⟩
                have D2:=xhd (D1.out.doc r2 t2 (Newer.refl _ _))
                have K2:=xhd (t2.same K1.out HNZ.out.2)
                obtain⟨_,u1,_,u3⟩:=cells4q K2.out
                clear r2 t2)
              |fail)
           all_goals
            have Q2:Hid (QOk (q.weigh d1 d3) (8+i+1)):=xhd ((HQ.out.weigh (by omega) d1 d3).later (by omega))
            clear y0 y1 y2 y3 v1 v3 u1 u3
            obtain⟨y0,y1,y2,y3⟩:=cells4q K2.out
            go_wp2_with fail
            with_reducible refine (HSM.out _ _ _ _ D2.out Q2.out).mono ?_
            rintro e V3 ⟨rfl,t3⟩
            have D3:=xhd (D2.out.later t3)
            have Q3:Hid (QOk (q.weigh d1 d3) (8+((i+1:Nat):Int))):=xhd (by have:=Q2.out;rw [show (8:Int)+((i+1:Nat):Int)=8+i+1 by omega];exact this)
            clear t3 y0 y1 y2 y3
            go_wp2
            go_roundw
            case rel=>exact⟨i+1,_,_,_,by have:=HLT.out;omega,by go_num,D3,Q3⟩
            case measure=>have:=HLT.out;simp [intOf];omega
         ·have q5':(dk % 10 == 5)=false:=by simpa using q5
          clear q5
          by_cases q6:(dk % 10 == 6)=true
          ·as_aux_lemma=>
            have PC:=xhd (S.settle H1.out.at_ HQ.out (by omega))
            obtain⟨y0,y1,y2,y3⟩:=cells4q HDK.out
            go_wp2_with fail
            rw [HWa.out]
            go_wp2_with fail
            with_reducible refine PC.out.mono ?_
            rintro e V1 ⟨rfl,X1,a1,t1,n1⟩
            have D1:=xhd (H1.out.prog a1 t1 n1)
            have K1:=xhd (t1.same HDK.out HNZ.out.1)
            have RC:=xhd (rsettle_any D1.out.ref)
            clear a1 t1 n1 y0 y1 y2 y3 PC
            obtain⟨y0,y1,y2,y3⟩:=cells4q K1.out
            go_wp2_with fail
            with_reducible refine RC.out.mono ?_
            rintro e V2 ⟨rfl,r2,t2⟩
            have n2:Newer Y V1.heap.size Y:=Newer.refl _ _
            have D2:=xhd (D1.out.doc r2 t2 n2)
            have K2:=xhd (t2.same K1.out HNZ.out.2)
            have Q2:Hid (QOk q.settle (8+i+1)):=xhd (HQ.out.settle.later (by omega))
            clear r2 t2 n2 y0 y1 y2 y3 RC
            obtain⟨y0,y1,y2,y3⟩:=cells4q K2.out
            go_wp2_with fail
            with_reducible refine (HSM.out _ _ _ _ D2.out Q2.out).mono ?_
            rintro e V3 ⟨rfl,t3⟩
            have D3:=xhd (D2.out.later t3)
            have Q3:Hid (QOk q.settle (8+((i+1:Nat):Int))):=xhd (by have:=Q2.out;rw [show (8:Int)+((i+1:Nat):Int)=8+i+1 by omega];exact this)
            clear t3 y0 y1 y2 y3
            go_wp2
            go_roundw
            case rel=>exact⟨i+1,_,_,_,by have:=HLT.out;omega,by go_num,D3,Q3⟩
            case measure=>have:=HLT.out;simp [intOf];omega
          ·have q6':(dk % 10 == 6)=false:=by simpa using q6
           clear q6
           as_aux_lemma=>
            have PC:=xhd (goon_any S H1.out.at_ HQ.out (by omega))
            obtain⟨y0,y1,y2,y3⟩:=cells4q HDK.out
            go_wp2_with fail
            rw [HWa.out]
            go_wp2_with fail
            with_reducible refine PC.out.mono ?_
            rintro e V1 ⟨rfl,X1,a1,t1,n1⟩
            have D1:=xhd (H1.out.prog a1 t1 n1)
            have K1:=xhd (t1.same HDK.out HNZ.out.1)
            have RC:=xhd (rgo_any D1.out.ref HQ.out (by omega))
            clear a1 t1 n1 y0 y1 y2 y3 PC
            obtain⟨y0,y1,y2,y3⟩:=cells4q K1.out
            go_wp2_with fail
            with_reducible refine RC.out.mono ?_
            rintro e V2 ⟨rfl,r2,t2⟩
            have n2:Newer Y V1.heap.size Y:=Newer.refl _ _
            have D2:=xhd (D1.out.doc r2 t2 n2)
            have K2:=xhd (t2.same K1.out HNZ.out.2)
            have Q2:Hid (QOk q.go (8+i+1)):=xhd (HQ.out.go)
            clear r2 t2 n2 y0 y1 y2 y3 RC
            obtain⟨y0,y1,y2,y3⟩:=cells4q K2.out
            go_wp2_with fail
            with_reducible refine (HSM.out _ _ _ _ D2.out Q2.out).mono ?_
            rintro e V3 ⟨rfl,t3⟩
            have D3:=xhd (D2.out.later t3)
            have Q3:Hid (QOk q.go (8+((i+1:Nat):Int))):=xhd (by have:=Q2.out;rw [show (8:Int)+((i+1:Nat):Int)=8+i+1 by omega];exact this)
            clear t3 y0 y1 y2 y3
            go_wp2
            go_roundw
            case rel=>exact⟨i+1,_,_,_,by have:=HLT.out;omega,by go_num,D3,Q3⟩
            case measure=>have:=HLT.out;simp [intOf];omega
   ·obtain rfl:i=n:=by omega
    have HT:=xhd HD.out.t
    go_wp2
    go_ret
    exact⟨rfl,HT.out⟩
end Go.Proofs.Ytbfifglcnhfccaa
